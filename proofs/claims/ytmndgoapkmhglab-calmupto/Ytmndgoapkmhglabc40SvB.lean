import Derived.Test.Ytmndgoapkmhglabc13RefI
import Derived.Test.Ytmndgoapkmhglabc24OrdB
import Derived.Test.Ytmndgoapkmhglabc30LawP
namespace Go.Proofs.Ytmndgoapkmhglab
open Go.RowKit
attribute [local go_sem ↓] Go.wp_at_zero Go.wp_at_succ
theorem truth_any (w : World) (b : Bool) :
    Calls Try.prog 133 #[.bool b] w fun e w' => e = .returned (.int .i64 (b2i b)) ∧ w = w' := by
  cases b
  all_goals
    go_enter Try.func133, Try.ntmps133
    go_wp2
    go_ret
    exact ⟨rfl, rfl⟩
theorem rknot_any (w : World) (a : Int) :
    Calls Try.prog 122 #[.int .i64 a] w fun e w' => e = .returned (.int .i64 (b2i (decide (a = 0)))) ∧ w = w' := by
  have HN := hide (fun W b => truth_any W b)
  go_enter Try.func122, Try.ntmps122
  go_wp2_with fail
  refine (HN.out _ _).mono ?_
  rintro e w1 ⟨rfl, rfl⟩
  go_wp2
  go_ret
  exact ⟨rfl, rfl⟩
def choF (a b c : Int) : Int := if a ≠ 0 then b else c
theorem choose_any (w : World) (a b c : Int) :
    Calls Try.prog 123 #[.int .i64 a, .int .i64 b, .int .i64 c] w fun e w' => e = .returned (.int .i64 (choF a b c)) ∧ w = w' := by
  by_cases h : a = 0
  · have HF : Hid (choF a b c = c) := hide (by unfold choF; rw [if_neg (by simpa using h)])
    have q : (a != 0) = false := by rw [h]; rfl
    clear h
    go_enter Try.func123, Try.ntmps123
    go_wp2
    go_ret
    exact ⟨by rw [HF.out]; rfl, rfl⟩
  · have HF : Hid (choF a b c = b) := hide (by unfold choF; rw [if_pos h])
    have q : (a != 0) = true := by rw [bne_iff_ne]; exact h
    clear h
    go_enter Try.func123, Try.ntmps123
    go_wp2
    go_ret
    exact ⟨by rw [HF.out]; rfl, rfl⟩
def quoF (a b : Int) : Int := if b = 0 then 0 else if b = -1 then w64 (0 - a) else w64 (a.tdiv b)
theorem quotient_any (w : World) (a b : Int) :
    Calls Try.prog 134 #[.int .i64 a, .int .i64 b] w fun e w' => e = .returned (.int .i64 (quoF a b)) ∧ w = w' := by
  by_cases h : b = 0
  · have HF : Hid (quoF a b = 0) := hide (by unfold quoF; rw [if_pos h])
    have q : (b == 0) = true := by rw [h]; rfl
    clear h
    go_enter Try.func134, Try.ntmps134
    go_wp2
    go_ret
    exact ⟨by rw [HF.out]; rfl, rfl⟩
  have q : (b == 0) = false := by rw [beq_eq_false_iff_ne]; exact h
  by_cases h1 : b = -1
  · have HF : Hid (quoF a b = w64 (-a)) := hide (by unfold quoF; rw [if_neg h, if_pos h1, Int.zero_sub])
    have q1 : (b == -1) = true := by rw [h1]; rfl
    clear h h1
    go_enter Try.func134, Try.ntmps134
    go_wp2
    go_ret
    exact ⟨by rw [HF.out]; rfl, rfl⟩
  · have HF : Hid (quoF a b = w64 (a.tdiv b)) := hide (by unfold quoF; rw [if_neg h, if_neg h1])
    have q1 : (b == -1) = false := by rw [beq_eq_false_iff_ne]; exact h1
    clear h1
    go_enter Try.func134, Try.ntmps134
    go_wp2
    go_ret
    exact ⟨by rw [HF.out]; rfl, rfl⟩
set_option maxHeartbeats 2000000 in
theorem pair_any (op : Nat) (w : World) (x y : Int) :
    Calls Try.prog 124 #[.int .i64 (op : Int), .int .i64 x, .int .i64 y] w fun e w' => e = .returned (.int .i64 (pairF op x y)) ∧ w = w' := by
  have HN := hide (fun W b => truth_any W b)
  have HQ := hide (fun W => quotient_any W x y)
  have no : ∀ k : Nat, op ≠ k → ((op : Int) == (k : Int)) = false := fun k h => by rw [beq_eq_false_iff_ne]; omega
  by_cases h5 : op = 5
  · have HF : Hid (pairF op x y = w64 (x + y)) := hide (by rw [h5]; rfl)
    have q : ((op : Int) == 5) = true := by rw [h5]; rfl
    clear h5 no
    go_enter Try.func124, Try.ntmps124
    go_wp2
    go_ret
    exact ⟨by rw [HF.out]; rfl, rfl⟩
  have q5 : ((op : Int) == 5) = false := no 5 h5
  by_cases h6 : op = 6
  · have HF : Hid (pairF op x y = w64 (x - y)) := hide (by rw [h6]; rfl)
    have q : ((op : Int) == 6) = true := by rw [h6]; rfl
    clear h5 h6 no
    go_enter Try.func124, Try.ntmps124
    go_wp2
    go_ret
    exact ⟨by rw [HF.out]; rfl, rfl⟩
  have q6 : ((op : Int) == 6) = false := no 6 h6
  by_cases h7 : op = 7
  · have HF : Hid (pairF op x y = w64 (x * y)) := hide (by rw [h7]; rfl)
    have q : ((op : Int) == 7) = true := by rw [h7]; rfl
    clear h5 h6 h7 no
    go_enter Try.func124, Try.ntmps124
    go_wp2
    go_ret
    exact ⟨by rw [HF.out]; rfl, rfl⟩
  have q7 : ((op : Int) == 7) = false := no 7 h7
  by_cases h8 : op = 8
  · have HF : Hid (pairF op x y = quoF x y) := hide (by rw [h8]; rfl)
    have q : ((op : Int) == 8) = true := by rw [h8]; rfl
    clear h5 h6 h7 h8 no
    go_enter Try.func124, Try.ntmps124
    go_wp2_with fail
    refine (HQ.out _).mono ?_
    rintro e w1 ⟨rfl, rfl⟩
    go_wp2
    go_ret
    exact ⟨by rw [HF.out]; rfl, rfl⟩
  have q8 : ((op : Int) == 8) = false := no 8 h8
  by_cases h9 : op = 9
  · have HF : Hid (pairF op x y = b2i (decide (x < y))) := hide (by rw [h9]; rfl)
    have q : ((op : Int) == 9) = true := by rw [h9]; rfl
    clear h5 h6 h7 h8 h9 no
    go_enter Try.func124, Try.ntmps124
    go_wp2_with fail
    refine (HN.out _ _).mono ?_
    rintro e w1 ⟨rfl, rfl⟩
    go_wp2
    go_ret
    exact ⟨by rw [HF.out]; rfl, rfl⟩
  have q9 : ((op : Int) == 9) = false := no 9 h9
  by_cases h10 : op = 10
  · have HF : Hid (pairF op x y = b2i (decide (x = y))) := hide (by rw [h10]; rfl)
    have q : ((op : Int) == 10) = true := by rw [h10]; rfl
    clear h5 h6 h7 h8 h9 h10 no
    go_enter Try.func124, Try.ntmps124
    go_wp2_with fail
    refine (HN.out _ _).mono ?_
    rintro e w1 ⟨rfl, rfl⟩
    go_wp2
    go_ret
    exact ⟨by rw [HF.out]; rfl, rfl⟩
  have q10 : ((op : Int) == 10) = false := no 10 h10
  have hcx : x = 0 ∨ (x != 0) = true := by by_cases e : x = 0 <;> simp [e]
  have hcy : y = 0 ∨ (y != 0) = true := by by_cases e : y = 0 <;> simp [e]
  by_cases h11 : op = 11
  · have HF : Hid (pairF op x y = b2i (decide (x ≠ 0) && decide (y ≠ 0))) := hide (by rw [h11]; rfl)
    have q : ((op : Int) == 11) = true := by rw [h11]; rfl
    clear h5 h6 h7 h8 h9 h10 h11 no
    rcases hcx with rfl | c1
    · go_enter Try.func124, Try.ntmps124
      go_wp2_with fail
      refine (HN.out _ _).mono ?_
      rintro e w1 ⟨rfl, rfl⟩
      go_wp2
      go_ret
      exact ⟨by rw [HF.out]; simp_all, rfl⟩
    · rcases hcy with rfl | c2
      all_goals
        go_enter Try.func124, Try.ntmps124
        go_wp2_with fail
        refine (HN.out _ _).mono ?_
        rintro e w1 ⟨rfl, rfl⟩
        go_wp2
        go_ret
        exact ⟨by rw [HF.out]; simp_all, rfl⟩
  have q11 : ((op : Int) == 11) = false := no 11 h11
  by_cases h12 : op = 12
  · have HF : Hid (pairF op x y = b2i (decide (x ≠ 0) || decide (y ≠ 0))) := hide (by rw [h12]; rfl)
    have q : ((op : Int) == 12) = true := by rw [h12]; rfl
    clear h5 h6 h7 h8 h9 h10 h11 h12 no
    rcases hcx with rfl | c1
    · rcases hcy with rfl | c2
      all_goals
        go_enter Try.func124, Try.ntmps124
        go_wp2_with fail
        refine (HN.out _ _).mono ?_
        rintro e w1 ⟨rfl, rfl⟩
        go_wp2
        go_ret
        exact ⟨by rw [HF.out]; simp_all, rfl⟩
    · go_enter Try.func124, Try.ntmps124
      go_wp2_with fail
      refine (HN.out _ _).mono ?_
      rintro e w1 ⟨rfl, rfl⟩
      go_wp2
      go_ret
      exact ⟨by rw [HF.out]; simp_all, rfl⟩
  have q12 : ((op : Int) == 12) = false := no 12 h12
  have HF : Hid (pairF op x y = 0) := hide (by unfold pairF; rw [if_neg h5, if_neg h6, if_neg h7, if_neg h8, if_neg h9, if_neg h10, if_neg h11, if_neg h12])
  clear h5 h6 h7 h8 h9 h10 h11 h12 no
  go_enter Try.func124, Try.ntmps124
  go_wp2
  go_ret
  exact ⟨by rw [HF.out]; rfl, rfl⟩
set_option maxHeartbeats 1000000 in
theorem element_any (w : World) (v : Value) (ins : List (List Int)) (h : LsAt w v ins) (i k : Nat) :
    Calls Try.prog 121 #[v, .int .i64 (i : Int), .int .i64 (k : Int)] w fun e w' => e = .returned (.int .i64 (elemF ins i k)) ∧ w = w' := by
  obtain ⟨A, C, rfl, hm, hc⟩ := h
  by_cases hi : i < ins.length
  · obtain ⟨b, o, rfl, hb, hr⟩ := hc (by omega)
    obtain ⟨x, hx, A', C', rfl, hm', hc'⟩ := hr i hi
    have j2 : ¬ (i : Int) ≥ (ins.length : Int) := by omega
    have i1 : (0 : Int) ≤ (i : Int) := by omega
    have i2 : (i : Int) < (ins.length : Int) := by omega
    by_cases hk : k < ins[i].length
    · obtain ⟨b', o', rfl, hb', hr'⟩ := hc' (by omega)
      have hv : elemF ins i k = ins[i][k] := by
        unfold elemF
        rw [List.getD_eq_getElem?_getD, List.getD_eq_getElem?_getD, List.getElem?_eq_getElem hi, Option.getD_some, List.getElem?_eq_getElem hk, Option.getD_some]
      have hx' := hr' k hk
      have HV := hide hv
      have k1 : (0 : Int) ≤ (k : Int) := by omega
      generalize ins[i][k] = z at hx' HV
      have k2 : (k : Int) < (ins[i].length : Int) := by omega
      have k3 : ¬ (k : Int) ≥ (ins[i].length : Int) := by omega
      clear hv hc hc' hr hr' hk
      generalize ins[i].length = n at *
      go_enter Try.func121, Try.ntmps121
      go_wp2
      go_ret
      exact ⟨by rw [HV.out]; rfl, rfl⟩
    · have hv : elemF ins i k = 0 := by
        unfold elemF
        rw [List.getD_eq_getElem?_getD, List.getD_eq_getElem?_getD, List.getElem?_eq_getElem hi, Option.getD_some, List.getElem?_eq_none (Nat.le_of_not_lt hk)]; rfl
      have HV := hide hv
      have k3 : (k : Int) ≥ (ins[i].length : Int) := by omega
      clear hv hc hc' hr
      generalize ins[i].length = n at *
      go_enter Try.func121, Try.ntmps121
      go_wp2
      go_ret
      exact ⟨by rw [HV.out]; rfl, rfl⟩
  · have hv : elemF ins i k = 0 := by
      unfold elemF
      have e : ins[i]? = none := List.getElem?_eq_none (Nat.le_of_not_lt hi)
      rw [List.getD_eq_getElem?_getD, List.getD_eq_getElem?_getD, e]; rfl
    have HV := hide hv
    have j2 : (i : Int) ≥ (ins.length : Int) := by omega
    clear hv hc
    go_enter Try.func121, Try.ntmps121
    go_wp2
    go_ret
    exact ⟨by rw [HV.out]; rfl, rfl⟩
structure Beat (w0 w : World) (bq g gb N k : Nat) (X Y : Nat → Int) : Prop where
  bel : Below w0.heap.size w0 w
  blk : w.heap[bq]? = some (.cells #[.int .i64 (k : Int), .slice (some ⟨g, 0, none⟩) N N, .slice (some ⟨gb, 0, none⟩) N N] 122)
  now : w.rowIs g 3 N (fun j => .int .i64 (X j))
  bef : w0.rowIs gb 3 N (fun j => .int .i64 (Y j))
  bq0 : w0.heap.size ≤ bq
  g0 : w0.heap.size ≤ g
  ne : g ≠ bq
theorem Beat.below {w0 w w' : World} {bq g gb N k : Nat} {X Y : Nat → Int} (h : Beat w0 w bq g gb N k X Y) (hb : Below w.heap.size w w') : Beat w0 w' bq g gb N k X Y := by
  have h1 : bq < w.heap.size := by
    have := h.blk
    exact (Array.getElem?_eq_some_iff.1 this).1
  exact ⟨h.bel.trans (hb.mono h.bel.size), (hb.block _ h1).trans h.blk, h.now.of_block (hb.block _ (World.rowIs.lt h.now)), h.bef, h.bq0, h.g0, h.ne⟩
theorem Beat.set {w0 w : World} {bq g gb N k : Nat} {X Y : Nat → Int} (h : Beat w0 w bq g gb N k X Y) (i : Nat) (v : Int) : Beat w0 (w.setCell ⟨g, i, none⟩ (.int .i64 v)) bq g gb N k (fun j => if j = i then v else X j) Y := by
  refine ⟨h.bel.setCell h.g0 _, (heap_setCell_other w ⟨g, i, none⟩ bq _ (Ne.symm h.ne)).trans h.blk, (h.now.set i _).congr (fun j _ => ?_), h.bef, h.bq0, h.g0, h.ne⟩
  by_cases e : j = i
  · simp [e]
  · simp [e]
theorem Beat.drew {w0 w : World} {bq g gb N k : Nat} {X Y : Nat → Int} (h : Beat w0 w bq g gb N k X Y) : Beat w0 w.drew bq g gb N k X Y :=
  ⟨h.bel.drew, h.blk, h.now.of_block rfl, h.bef, h.bq0, h.g0, h.ne⟩
theorem Beat.c0 {w0 w : World} {bq g gb N k : Nat} {X Y : Nat → Int} (h : Beat w0 w bq g gb N k X Y) : w.cell? ⟨bq, 0, none⟩ = some (.int .i64 (k : Int)) := (cell_of_row w bq 0 _ _ _ h.blk).trans rfl
theorem Beat.c1 {w0 w : World} {bq g gb N k : Nat} {X Y : Nat → Int} (h : Beat w0 w bq g gb N k X Y) : w.cell? ⟨bq, 1, none⟩ = some (.slice (some ⟨g, 0, none⟩) N N) := (cell_of_row w bq 1 _ _ _ h.blk).trans rfl
theorem Beat.c2 {w0 w : World} {bq g gb N k : Nat} {X Y : Nat → Int} (h : Beat w0 w bq g gb N k X Y) : w.cell? ⟨bq, 2, none⟩ = some (.slice (some ⟨gb, 0, none⟩) N N) := (cell_of_row w bq 2 _ _ _ h.blk).trans rfl
theorem Beat.x {w0 w : World} {bq g gb N k : Nat} {X Y : Nat → Int} (h : Beat w0 w bq g gb N k X Y) {j : Nat} (hj : j < N) : w.cell? ⟨g, j, none⟩ = some (.int .i64 (X j)) := h.now.cell hj
theorem Beat.y {w0 w : World} {bq g gb N k : Nat} {X Y : Nat → Int} (h : Beat w0 w bq g gb N k X Y) {j : Nat} (hj : j < N) : w.cell? ⟨gb, j, none⟩ = some (.int .i64 (Y j)) :=
  (h.bel.cell (p := ⟨gb, j, none⟩) (World.rowIs.lt h.bef)).trans (h.bef.cell hj)
theorem Beat.froz {w0 w : World} {bq g gb N k : Nat} {X Y : Nat → Int} (h : Beat w0 w bq g gb N k X Y) (j : Nat) : w.frozen? ⟨g, j, none⟩ = false := h.now.frozen j
theorem Beat.alloc {w0 w : World} {bq g gb N k : Nat} {X Y : Nat → Int} (h : Beat w0 w bq g gb N k X Y) (o : Obj) : Beat w0 (w.alloc o) bq g gb N k X Y := h.below ((Below.refl _ _).alloc (Nat.le_refl _) o)
theorem dc_get {ds : List Dc} {b : Nat} (h : b < ds.length) : kindAt ds (b : Int) = ds[b].kind ∧ numAt ds (b : Int) = ds[b].number ∧ rootAt ds (b : Int) = ds[b].root := by
  unfold kindAt numAt rootAt
  rw [Int.toNat_natCast, List.getD_eq_getElem?_getD, List.getElem?_eq_getElem h]
  exact ⟨rfl, rfl, rfl⟩
set_option maxHeartbeats 2000000 in
set_option maxRecDepth 100000 in
theorem value_any (w0 w : World) (q : Nat) (ds : List Dc) (ns : List Nd) (vd vn vX : Value) (ins : List (List Int)) (h : ProgAt w0 q ds ns vd vn) (hwf : ProgWf ds ns) (hX : LsAt w0 vX ins)
    (hdc : ∀ n ∈ ns, n.kind = 2 → 0 ≤ n.decl ∧ n.decl < (ds.length : Int)) (hrt : ∀ d ∈ ds, d.kind ≠ 0 → d.root < ns.length)
    (bq g gb k : Nat) (X Y : Nat → Int) (hB : Beat w0 w bq g gb ns.length k X Y) (i : Nat) (hi : i < ns.length) :
    Calls Try.prog 99 #[.pointer (some ⟨q, 0, none⟩), vX, .int .i64 (i : Int), .pointer (some ⟨bq, 0, none⟩)] w fun e w' => e = .returned (.int .i64 (valF ds ins ns[i] k X Y)) ∧ Below w.heap.size w w' := by
  have c1 := (h.below hB.bel).c1
  obtain ⟨av, cap, rfl, hsh⟩ := own_shape h.decls
  obtain ⟨an, capn, rfl, hshn⟩ := own_shape h.nodes
  obtain ⟨gn, rfl, _, hgn⟩ := hshn (by omega)
  obtain ⟨n, hn⟩ : ∃ n, n = ns[i]'hi := ⟨_, rfl⟩
  have hnm : n ∈ ns := by rw [hn]; exact List.getElem_mem hi
  obtain ⟨y0, y1, y2, y3, y4, y5, y6, y7, y8, y9, y10⟩ := nd_later h.nodes hB.bel hgn hi n hn
  obtain ⟨pa, pb, pc⟩ := hwf.parts n hnm
  have hkd := hwf.kind n hnm
  have j1 : (0 : Int) ≤ (i : Int) := by omega
  have j2 : (i : Int) < (ns.length : Int) := by omega
  have a1 : (0 : Int) ≤ (n.a : Int) := by omega
  have a2 : (n.a : Int) < (ns.length : Int) := by omega
  have b1 : (0 : Int) ≤ (n.b : Int) := by omega
  have b2 : (n.b : Int) < (ns.length : Int) := by omega
  have e1 : (0 : Int) ≤ (n.c : Int) := by omega
  have e2 : (n.c : Int) < (ns.length : Int) := by omega
  have d0 : ∀ o, (w.alloc o).cell? ⟨bq, 0, none⟩ = some (.int .i64 (k : Int)) := fun o => (hB.alloc o).c0
  have d1 : ∀ o, (w.alloc o).cell? ⟨bq, 1, none⟩ = some (.slice (some ⟨g, 0, none⟩) ns.length ns.length) := fun o => (hB.alloc o).c1
  have d2 : ∀ o, (w.alloc o).cell? ⟨bq, 2, none⟩ = some (.slice (some ⟨gb, 0, none⟩) ns.length ns.length) := fun o => (hB.alloc o).c2
  have xa : ∀ o, (w.alloc o).cell? ⟨g, n.a, none⟩ = some (.int .i64 (X n.a)) := fun o => (hB.alloc o).x pa
  have xb : ∀ o, (w.alloc o).cell? ⟨g, n.b, none⟩ = some (.int .i64 (X n.b)) := fun o => (hB.alloc o).x pb
  have xc : ∀ o, (w.alloc o).cell? ⟨g, n.c, none⟩ = some (.int .i64 (X n.c)) := fun o => (hB.alloc o).x pc
  have yb : ∀ o, (w.alloc o).cell? ⟨gb, n.b, none⟩ = some (.int .i64 (Y n.b)) := fun o => (hB.alloc o).y pb
  rw [← hn]
  have HB := hide hB
  have HP := hide h
  have HX := hide hX
  have HSH := hide hsh
  have HRT := hide hrt
  have no : ∀ k : Nat, n.kind ≠ k → ((n.kind : Int) == (k : Int)) = false := fun k h => by rw [beq_eq_false_iff_ne]; omega
  have hn2 := hdc n hnm
  clear hsh hshn hB h hX hn hdc hrt hnm
  by_cases k2 : n.kind = 2
  · have q2 : ((n.kind : Int) == 2) = true := by rw [k2]; rfl
    obtain ⟨hd1, hd2⟩ := hn2 k2
    obtain ⟨b, hb⟩ : ∃ b : Nat, n.decl = (b : Int) := ⟨n.decl.toNat, by omega⟩
    rw [hb] at y4
    have hbl : b < ds.length := by omega
    obtain ⟨ga, rfl, _, hga⟩ := HSH.out (by omega)
    obtain ⟨d, hd⟩ : ∃ d, d = ds[b]'hbl := ⟨_, rfl⟩
    have hdm : d ∈ ds := by rw [hd]; exact List.getElem_mem hbl
    have hbel1 : ∀ o, Below w0.heap.size w0 (w.alloc o) := fun o => (HB.out.alloc o).bel
    have x0 : ∀ o, (w.alloc o).cell? ⟨ga, b * 7, none⟩ = some (.int .i64 (d.kind : Int)) := fun o => (dc_later HP.out.decls (hbel1 o) hga hbl d hd).1
    have x1 : ∀ o, (w.alloc o).cell? ⟨ga, b * 7 + 1, none⟩ = some (.int .i64 (d.number : Int)) := fun o => (dc_later HP.out.decls (hbel1 o) hga hbl d hd).2.1
    have x2 : ∀ o, (w.alloc o).cell? ⟨ga, b * 7 + 2, none⟩ = some (.string d.name) := fun o => (dc_later HP.out.decls (hbel1 o) hga hbl d hd).2.2.1
    have x3 : ∀ o, (w.alloc o).cell? ⟨ga, b * 7 + 3, none⟩ = some (.int .i64 (d.pos : Int)) := fun o => (dc_later HP.out.decls (hbel1 o) hga hbl d hd).2.2.2.1
    have x4 : ∀ o, (w.alloc o).cell? ⟨ga, b * 7 + 4, none⟩ = some (.int .i64 (d.place : Int)) := fun o => (dc_later HP.out.decls (hbel1 o) hga hbl d hd).2.2.2.2.1
    have x5 : ∀ o, (w.alloc o).cell? ⟨ga, b * 7 + 5, none⟩ = some (.int .i64 (d.root : Int)) := fun o => (dc_later HP.out.decls (hbel1 o) hga hbl d hd).2.2.2.2.2.1
    have x6 : ∀ o, (w.alloc o).cell? ⟨ga, b * 7 + 6, none⟩ = some (.int .i64 (d.fin : Int)) := fun o => (dc_later HP.out.decls (hbel1 o) hga hbl d hd).2.2.2.2.2.2
    have p0 : ∀ o, (w.alloc o).cell? ⟨q, 0, none⟩ = some (.slice (some ⟨ga, 0, none⟩) ds.length cap) := fun o => (HP.out.below (hbel1 o)).c0
    have hbel2 : ∀ o o', Below w0.heap.size w0 ((w.alloc o).alloc o') := fun o o' => ((HB.out.alloc o).alloc o').bel
    have x0' : ∀ o o', ((w.alloc o).alloc o').cell? ⟨ga, b * 7, none⟩ = some (.int .i64 (d.kind : Int)) := fun o o' => (dc_later HP.out.decls (hbel2 o o') hga hbl d hd).1
    have x1' : ∀ o o', ((w.alloc o).alloc o').cell? ⟨ga, b * 7 + 1, none⟩ = some (.int .i64 (d.number : Int)) := fun o o' => (dc_later HP.out.decls (hbel2 o o') hga hbl d hd).2.1
    have x2' : ∀ o o', ((w.alloc o).alloc o').cell? ⟨ga, b * 7 + 2, none⟩ = some (.string d.name) := fun o o' => (dc_later HP.out.decls (hbel2 o o') hga hbl d hd).2.2.1
    have x3' : ∀ o o', ((w.alloc o).alloc o').cell? ⟨ga, b * 7 + 3, none⟩ = some (.int .i64 (d.pos : Int)) := fun o o' => (dc_later HP.out.decls (hbel2 o o') hga hbl d hd).2.2.2.1
    have x4' : ∀ o o', ((w.alloc o).alloc o').cell? ⟨ga, b * 7 + 4, none⟩ = some (.int .i64 (d.place : Int)) := fun o o' => (dc_later HP.out.decls (hbel2 o o') hga hbl d hd).2.2.2.2.1
    have x5' : ∀ o o', ((w.alloc o).alloc o').cell? ⟨ga, b * 7 + 5, none⟩ = some (.int .i64 (d.root : Int)) := fun o o' => (dc_later HP.out.decls (hbel2 o o') hga hbl d hd).2.2.2.2.2.1
    have x6' : ∀ o o', ((w.alloc o).alloc o').cell? ⟨ga, b * 7 + 6, none⟩ = some (.int .i64 (d.fin : Int)) := fun o o' => (dc_later HP.out.decls (hbel2 o o') hga hbl d hd).2.2.2.2.2.2
    have p0' : ∀ o o', ((w.alloc o).alloc o').cell? ⟨q, 0, none⟩ = some (.slice (some ⟨ga, 0, none⟩) ds.length cap) := fun o o' => (HP.out.below (hbel2 o o')).c0
    have z4 : ∀ o', ((w.alloc (.cells #[.int .i64 (n.kind : Int), .int .i64 (n.pos : Int), .int .i64 (n.value : Int), .string n.name, .int .i64 (b : Int), .int .i64 (n.op : Int), .int .i64 (n.a : Int), .int .i64 (n.b : Int), .int .i64 (n.c : Int), .bool n.delayed, .bool n.behind] 171)).alloc o').cell? ⟨w.heap.size, 4, none⟩ = some (.int .i64 (b : Int)) := fun o' => (World.cell?_alloc_past _ _ _ (by simp)).trans ((World.cell?_alloc_at _ _ _ _ rfl).trans rfl)
    have t1 : (0 : Int) ≤ (b : Int) := by omega
    have t2 : (b : Int) < (ds.length : Int) := by omega
    obtain ⟨g1, g2, g3⟩ := dc_get hbl
    rw [← hd] at g1 g2 g3
    have hv : valF ds ins n k X Y = nameF ds ins (b : Int) k X := by unfold valF; rw [if_pos k2, hb]
    have d0' : ∀ o o', ((w.alloc o).alloc o').cell? ⟨bq, 0, none⟩ = some (.int .i64 (k : Int)) := fun o o' => ((HB.out.alloc o).alloc o').c0
    have d1' : ∀ o o', ((w.alloc o).alloc o').cell? ⟨bq, 1, none⟩ = some (.slice (some ⟨g, 0, none⟩) ns.length ns.length) := fun o o' => ((HB.out.alloc o).alloc o').c1
    by_cases hk0 : d.kind = 0
    · have q0 : ((d.kind : Int) == 0) = true := by rw [hk0]; rfl
      have HF : Hid (valF ds ins n k X Y = elemF ins d.number k) := hide (by rw [hv]; unfold nameF; rw [g1, if_pos hk0, g2])
      have HE := hide (fun W hW => element_any W vX ins hW d.number k)
      clear k2 hn2 hv g1 g2 g3 hd hdm hk0 no hb hd1 hd2
      go_enter Try.func99, Try.ntmps99
      go_wp2_with fail
      go_big_region
      go_wp2_with fail
      go_region_held3 (fun w' => w'.cell? ⟨bq, 0, none⟩ = some (.int .i64 (k : Int)) ∧ w'.cell? ⟨w.heap.size + 1, 1, none⟩ = some (.int .i64 (d.number : Int))) (go_keep) ((go_at_call 121; refine (HE.out _ (by first | exact HX.out.below ((HB.out.alloc _).alloc _).drew.bel | exact HX.out.below ((HB.out.alloc _).alloc _).drew.drew.bel)).mono ?_; rintro e w3 ⟨rfl, hw3⟩; subst hw3))
      rename_i hHeld
      clear hHeld
      go_wp2
      go_ret
      exact ⟨by rw [HF.out]; rfl, by first | exact (((Below.refl _ _).alloc (Nat.le_refl _) _).alloc (by simp) _).drew | exact (((Below.refl _ _).alloc (Nat.le_refl _) _).alloc (by simp) _).drew.drew⟩
    · have q0 : ((d.kind : Int) == 0) = false := by rw [beq_eq_false_iff_ne]; omega
      have hrl := HRT.out d hdm hk0
      have HF : Hid (valF ds ins n k X Y = X d.root) := hide (by rw [hv]; unfold nameF; rw [g1, if_neg hk0, g3])
      have xr : ∀ o o', ((w.alloc o).alloc o').cell? ⟨g, d.root, none⟩ = some (.int .i64 (X d.root)) := fun o o' => ((HB.out.alloc o).alloc o').x hrl
      have r1 : (0 : Int) ≤ (d.root : Int) := by omega
      have r2 : (d.root : Int) < (ns.length : Int) := by omega
      clear k2 hn2 hv g1 g2 g3 hd hdm hk0 no hb hd1 hd2
      go_enter Try.func99, Try.ntmps99
      go_wp2_with fail
      go_big_region
      go_wp2_with fail
      go_big_region
      go_wp2
      go_ret
      exact ⟨by rw [HF.out]; rfl, by first | exact (((Below.refl _ _).alloc (Nat.le_refl _) _).alloc (by simp) _).drew | exact (((Below.refl _ _).alloc (Nat.le_refl _) _).alloc (by simp) _).drew.drew⟩
  have q2 : ((n.kind : Int) == 2) = false := no 2 k2
  by_cases k3 : n.kind = 3
  · have q3 : ((n.kind : Int) == 3) = true := by rw [k3]; rfl
    have HF : Hid (valF ds ins n k X Y = b2i (decide (X n.a = 0))) := hide (by unfold valF; rw [if_neg k2, if_pos k3])
    have HN := hide (fun W => rknot_any W (X n.a))
    clear k2 k3 hn2 no
    go_enter Try.func99, Try.ntmps99
    go_wp2_with fail
    go_region_held3 (fun w' => w'.cell? ⟨bq, 1, none⟩ = some (.slice (some ⟨g, 0, none⟩) ns.length ns.length) ∧ w'.cell? ⟨w.heap.size, 6, none⟩ = some (.int .i64 (n.a : Int)) ∧ w'.cell? ⟨g, n.a, none⟩ = some (.int .i64 (X n.a))) (go_keep) ((go_at_call 122; refine (HN.out _).mono ?_; rintro e w3 ⟨rfl, hw3⟩; subst hw3))
    rename_i hHeld
    clear hHeld
    go_wp2
    go_ret
    exact ⟨by rw [HF.out]; rfl, by first | exact below_drewN ((Below.refl _ _).alloc (Nat.le_refl _) _) _ | exact ((Below.refl _ _).alloc (Nat.le_refl _) _).drew⟩
  have q3 : ((n.kind : Int) == 3) = false := no 3 k3
  by_cases k4 : n.kind = 4
  · have q4 : ((n.kind : Int) == 4) = true := by rw [k4]; rfl
    have HF : Hid (valF ds ins n k X Y = choF (X n.a) (X n.b) (X n.c)) := hide (by unfold valF choF; rw [if_neg k2, if_neg k3, if_pos k4])
    have HN := hide (fun W => choose_any W (X n.a) (X n.b) (X n.c))
    clear k2 k3 k4 hn2 no
    go_enter Try.func99, Try.ntmps99
    go_wp2_with fail
    go_region_held3 (fun w' => w'.cell? ⟨bq, 1, none⟩ = some (.slice (some ⟨g, 0, none⟩) ns.length ns.length) ∧ w'.cell? ⟨w.heap.size, 6, none⟩ = some (.int .i64 (n.a : Int)) ∧ w'.cell? ⟨w.heap.size, 7, none⟩ = some (.int .i64 (n.b : Int)) ∧ w'.cell? ⟨w.heap.size, 8, none⟩ = some (.int .i64 (n.c : Int)) ∧ w'.cell? ⟨g, n.a, none⟩ = some (.int .i64 (X n.a)) ∧ w'.cell? ⟨g, n.b, none⟩ = some (.int .i64 (X n.b)) ∧ w'.cell? ⟨g, n.c, none⟩ = some (.int .i64 (X n.c))) (go_keep) ((go_at_call 123; refine (HN.out _).mono ?_; rintro e w3 ⟨rfl, hw3⟩; subst hw3))
    rename_i hHeld
    clear hHeld
    go_wp2
    go_ret
    exact ⟨by rw [HF.out]; rfl, by first | exact below_drewN ((Below.refl _ _).alloc (Nat.le_refl _) _) _ | exact ((Below.refl _ _).alloc (Nat.le_refl _) _).drew⟩
  have q4 : ((n.kind : Int) == 4) = false := no 4 k4
  by_cases k5 : n.kind = 5
  · have q5 : ((n.kind : Int) == 5) = true := by rw [k5]; rfl
    by_cases hk0 : k = 0
    · have q6 : ((k : Int) == 0) = true := by rw [hk0]; rfl
      have HF : Hid (valF ds ins n k X Y = X n.a) := hide (by unfold valF; rw [if_neg k2, if_neg k3, if_neg k4, if_pos k5, if_pos hk0])
      clear k2 k3 k4 k5 hn2 no hk0
      go_enter Try.func99, Try.ntmps99
      go_wp2_with fail
      go_quiet (fail)
      go_wp2
      go_ret
      exact ⟨by rw [HF.out]; rfl, by first | exact below_drewN ((Below.refl _ _).alloc (Nat.le_refl _) _) _ | exact ((Below.refl _ _).alloc (Nat.le_refl _) _).drew⟩
    · have q6 : ((k : Int) == 0) = false := by rw [beq_eq_false_iff_ne]; omega
      have HF : Hid (valF ds ins n k X Y = Y n.b) := hide (by unfold valF; rw [if_neg k2, if_neg k3, if_neg k4, if_pos k5, if_neg hk0])
      clear k2 k3 k4 k5 hn2 no hk0
      go_enter Try.func99, Try.ntmps99
      go_wp2_with fail
      go_quiet (fail)
      go_wp2
      go_ret
      exact ⟨by rw [HF.out]; rfl, by first | exact below_drewN ((Below.refl _ _).alloc (Nat.le_refl _) _) _ | exact ((Below.refl _ _).alloc (Nat.le_refl _) _).drew⟩
  have q5 : ((n.kind : Int) == 5) = false := no 5 k5
  by_cases k6 : n.kind = 6
  · have q6 : ((n.kind : Int) == 6) = true := by rw [k6]; rfl
    have HF : Hid (valF ds ins n k X Y = pairF n.op (X n.a) (X n.b)) := hide (by unfold valF; rw [if_neg k2, if_neg k3, if_neg k4, if_neg k5, if_pos k6])
    have HN := hide (fun W => pair_any n.op W (X n.a) (X n.b))
    clear k2 k3 k4 k5 k6 hn2 no
    go_enter Try.func99, Try.ntmps99
    go_wp2_with fail
    go_region_held3 (fun w' => w'.cell? ⟨bq, 1, none⟩ = some (.slice (some ⟨g, 0, none⟩) ns.length ns.length) ∧ w'.cell? ⟨w.heap.size, 5, none⟩ = some (.int .i64 (n.op : Int)) ∧ w'.cell? ⟨w.heap.size, 6, none⟩ = some (.int .i64 (n.a : Int)) ∧ w'.cell? ⟨w.heap.size, 7, none⟩ = some (.int .i64 (n.b : Int)) ∧ w'.cell? ⟨g, n.a, none⟩ = some (.int .i64 (X n.a)) ∧ w'.cell? ⟨g, n.b, none⟩ = some (.int .i64 (X n.b))) (go_keep) ((go_at_call 124; refine (HN.out _).mono ?_; rintro e w3 ⟨rfl, hw3⟩; subst hw3))
    rename_i hHeld
    clear hHeld
    go_wp2
    go_ret
    exact ⟨by rw [HF.out]; rfl, by first | exact below_drewN ((Below.refl _ _).alloc (Nat.le_refl _) _) _ | exact ((Below.refl _ _).alloc (Nat.le_refl _) _).drew⟩
  · have q6 : ((n.kind : Int) == 6) = false := no 6 k6
    have HF : Hid (valF ds ins n k X Y = (n.value : Int)) := hide (by unfold valF; rw [if_neg k2, if_neg k3, if_neg k4, if_neg k5, if_neg k6])
    clear k2 k3 k4 k5 k6 hn2 no
    go_enter Try.func99, Try.ntmps99
    go_wp2
    go_ret
    exact ⟨by rw [HF.out]; rfl, (Below.refl _ _).alloc (Nat.le_refl _) _⟩
end Go.Proofs.Ytmndgoapkmhglab
