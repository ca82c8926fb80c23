import Derived.Deep.RegionHeld3
import Derived.Test.YtmndgoapkmhglaaM50ExA
import Derived.Test.YtmndgoapkmhglaaM54PExB
/- Plain mathematics: what a register holds. -/
namespace Go.Proofs.Ytmndgoapkmhglaa

theorem regsF_app (n : Int) (cells ins links : List Int) : ∀ (l m : List OpF) (regs : List Int), regsF n cells ins links regs (l ++ m) = regsF n cells ins links (regsF n cells ins links regs l) m := by
  intro l
  induction l with
  | nil => intro m regs; rfl
  | cons a r ih => intro m regs; exact ih m _
theorem regsF_more (n : Int) (cells ins links : List Int) : ∀ (l : List OpF) (regs : List Int), ∃ x, regsF n cells ins links regs l = regs ++ x := by
  intro l
  induction l with
  | nil => intro regs; exact ⟨[], by simp [regsF]⟩
  | cons a r ih =>
    intro regs
    obtain ⟨x, hx⟩ := ih (regs ++ [laysF a n regs cells ins links])
    exact ⟨[laysF a n regs cells ins links] ++ x, by simp only [regsF]; rw [hx, List.append_assoc]⟩

theorem lays_congr {o : OpF} (h0 : 0 ≤ o.k) (h1 : o.k ≤ 14) {n : Int} {cells ins links r r' : List Int} (h : ∀ x ∈ (opArgs o).take (readsF o.k), atF r x = atF r' x) : laysF o n r cells ins links = laysF o n r' cells ins links := by
  unfold laysF
  by_cases k0 : o.k = 0; · rw [if_pos k0, if_pos k0]
  rw [if_neg k0, if_neg k0]
  by_cases k1 : o.k = 1; · rw [if_pos k1, if_pos k1]
  rw [if_neg k1, if_neg k1]
  by_cases k2 : o.k = 2; · rw [if_pos k2, if_pos k2]
  rw [if_neg k2, if_neg k2]
  by_cases k3 : o.k = 3; · rw [if_pos k3, if_pos k3]
  rw [if_neg k3, if_neg k3]
  by_cases k4 : o.k = 4; · rw [if_pos k4, if_pos k4]
  rw [if_neg k4, if_neg k4]
  have ha : atF r o.a = atF r' o.a := h _ (by
    unfold readsF opArgs
    rw [if_neg (by omega)]
    split
    · simp
    · split <;> simp)
  have hb : o.k ≠ 13 → atF r o.b = atF r' o.b := fun hk => h _ (by
    unfold readsF opArgs
    rw [if_neg (by omega), if_neg hk]
    split <;> simp)
  have hc : o.k = 14 → atF r o.c = atF r' o.c := fun hk => h _ (by
    unfold readsF opArgs
    rw [if_neg (by omega), if_neg (by omega), if_pos hk]
    simp)
  by_cases k13 : o.k = 13
  · simp only [k13, ha]
    rfl
  · rw [ha, hb k13]
    by_cases k14 : o.k = 14
    · rw [hc k14]
    · by_cases k5 : o.k = 5; · rw [if_pos k5, if_pos k5]
      rw [if_neg k5, if_neg k5]
      by_cases k6 : o.k = 6; · rw [if_pos k6, if_pos k6]
      rw [if_neg k6, if_neg k6]
      by_cases k7 : o.k = 7; · rw [if_pos k7, if_pos k7]
      rw [if_neg k7, if_neg k7]
      by_cases k8 : o.k = 8; · rw [if_pos k8, if_pos k8]
      rw [if_neg k8, if_neg k8]
      by_cases k9 : o.k = 9; · rw [if_pos k9, if_pos k9]
      rw [if_neg k9, if_neg k9]
      by_cases k10 : o.k = 10; · rw [if_pos k10, if_pos k10]
      rw [if_neg k10, if_neg k10]
      by_cases k11 : o.k = 11; · rw [if_pos k11, if_pos k11]
      rw [if_neg k11, if_neg k11]
      by_cases k12 : o.k = 12; · rw [if_pos k12, if_pos k12]
      omega

theorem opOk_parts {nc j : Nat} {o : OpF} (h : opOk nc j o = true) : 0 ≤ o.k ∧ o.k ≤ 14 ∧ ∀ x ∈ (opArgs o).take (readsF o.k), regOk j x = true := by
  unfold opOk at h
  simp only [Bool.and_eq_true, decide_eq_true_eq, List.all_eq_true] at h
  obtain ⟨⟨⟨h1, h2⟩, _⟩, h4⟩ := h
  exact ⟨h1, h2, h4⟩
theorem atF_nat (l : List Int) (j : Nat) : atF l (j : Int) = l.getD j 0 := by
  unfold atF; rw [if_neg (by omega), Int.toNat_natCast]
theorem atF_pre {l x : List Int} {r : Int} (h : regOk l.length r = true) : atF (l ++ x) r = atF l r := by
  unfold regOk at h
  simp only [Bool.and_eq_true, decide_eq_true_eq] at h
  unfold atF
  rw [if_neg (by omega), if_neg (by omega), List.getD_eq_getElem?_getD, List.getD_eq_getElem?_getD, List.getElem?_append_left (by omega)]

/-- what a register holds in the end. -/
theorem reg_at {ops : List OpF} {n : Int} {cells ins links : List Int} {nc j : Nat} {o : OpF} (hj : ops[j]? = some o) (hok : opOk nc j o = true) :
    atF (regsF n cells ins links [] ops) (j : Int) = laysF o n (regsF n cells ins links [] ops) cells ins links := by
  obtain ⟨hl, hg⟩ := List.getElem?_eq_some_iff.1 hj
  have e : ops = ops.take j ++ (o :: ops.drop (j + 1)) := by
    rw [← hg, ← List.drop_eq_getElem_cons hl, List.take_append_drop]
  obtain ⟨P, hP⟩ : ∃ P, P = regsF n cells ins links [] (ops.take j) := ⟨_, rfl⟩
  have hPl : P.length = j := by rw [hP, regsF_len]; simp; omega
  obtain ⟨x, hx⟩ := regsF_more n cells ins links (ops.drop (j + 1)) (P ++ [laysF o n P cells ins links])
  have e2 : regsF n cells ins links [] ops = P ++ ([laysF o n P cells ins links] ++ x) := by
    conv => lhs; rw [e]
    rw [regsF_app, ← hP]
    show regsF n cells ins links (P ++ [laysF o n P cells ins links]) (ops.drop (j + 1)) = _
    rw [hx, List.append_assoc]
  obtain ⟨h0, h1, h2⟩ := opOk_parts hok
  rw [e2, atF_nat, List.getD_eq_getElem?_getD, List.getElem?_append_right (by omega), hPl, Nat.sub_self]
  show laysF o n P cells ins links = _
  exact lays_congr h0 h1 (fun r hr => (atF_pre (by rw [hPl]; exact h2 r hr)).symm)

end Go.Proofs.Ytmndgoapkmhglaa

/- the program's machine: value. -/
namespace Go.Proofs.Ytmndgoapkmhglaa
open Go.RowKit
attribute [local go_sem ↓] Go.wp_at_zero Go.wp_at_succ

/-- a register in a row. -/
theorem row_two {w : World} {b o : Nat} {l : List Int} (hb : b < w.heap.size) (hr : ∀ k (h : k < l.length), w.cell? ⟨b, o + k, none⟩ = some (.int .i64 l[k])) {x : Int} (hx : regOk l.length x = true) :
    ∃ k : Nat, x = (k : Int) ∧ (0 : Int) ≤ (k : Int) ∧ (k : Int) < (l.length : Int) ∧ ∀ o1 o2, ((w.alloc o1).alloc o2).cell? ⟨b, o + k, none⟩ = some (.int .i64 (atF l x)) := by
  unfold regOk at hx
  simp only [Bool.and_eq_true, decide_eq_true_eq] at hx
  obtain ⟨k, rfl⟩ : ∃ k : Nat, x = (k : Int) := ⟨x.toNat, by omega⟩
  refine ⟨k, rfl, by omega, by omega, fun o1 o2 => ?_⟩
  have h1 : Below w.heap.size w ((w.alloc o1).alloc o2) := ((Below.refl _ _).alloc (Nat.le_refl _) o1).alloc (by simp) o2
  rw [h1.cell (p := ⟨b, o + k, none⟩) hb, hr k (by omega)]
  unfold atF
  rw [if_neg (by omega), Int.toNat_natCast, List.getD_eq_getElem?_getD, List.getElem?_eq_getElem (by omega)]
  rfl

theorem lays_pair {k : Nat} (h5 : 5 ≤ k) (h12 : k ≤ 12) (a b c n : Int) (regs cells ins links : List Int) : laysF ⟨(k : Int), a, b, c⟩ n regs cells ins links = pairF k (atF regs a) (atF regs b) := by
  have : k = 5 ∨ k = 6 ∨ k = 7 ∨ k = 8 ∨ k = 9 ∨ k = 10 ∨ k = 11 ∨ k = 12 := by omega
  rcases this with rfl | rfl | rfl | rfl | rfl | rfl | rfl | rfl
  · rfl
  · rfl
  · rfl
  · exact pair_ap (o := [47]) (by decide) (fun h => by simp at h)
  · rfl
  · rfl
  · rfl
  · rfl

set_option maxHeartbeats 2000000 in
set_option maxRecDepth 100000 in
theorem mvalue_any (w : World) (o : OpF) (n : Int) (vr vc vi vl : Value) (regs cells ins links : List Int) (hk : opOk cells.length regs.length o = true) (hr : RowAt w vr regs) (hc : RowAt w vc cells) (hi : RowAt w vi ins) (hl : RowAt w vl links) :
    Calls Try.prog 88 #[.agg #[.int .i64 o.k, .int .i64 o.a, .int .i64 o.b, .int .i64 o.c], .agg #[.int .i64 n, vc, vi, vl], vr] w fun e w' => e = .returned (.int .i64 (laysF o n regs cells ins links)) ∧ Below w.heap.size w w' := by
  obtain ⟨k, a, b, c⟩ := o
  obtain ⟨p0, p14, pr⟩ := opOk_parts hk
  simp only at p0 p14 pr
  have HAL : Hid (∀ o1 o2, Below w.heap.size w ((w.alloc o1).alloc o2)) := hide (fun o1 o2 => ((Below.refl _ _).alloc (Nat.le_refl _) o1).alloc (by simp) o2)
  have HI := hide (fun o1 o2 z => melement_any ((w.alloc o1).alloc o2) vi ins (hi.below (HAL.out o1 o2)) z)
  have HL := hide (fun o1 o2 z => melement_any ((w.alloc o1).alloc o2) vl links (hl.below (HAL.out o1 o2)) z)
  have HN := hide (fun W x => rknot_any W x)
  have HCH := hide (fun W x y z => choose_any W x y z)
  obtain ⟨Ar, Cr, rfl, hmr, hcr⟩ := hr
  obtain ⟨Ac, Cc, rfl, hmc, hcc⟩ := hc
  obtain ⟨Ai, Ci, rfl, _, _⟩ := hi
  obtain ⟨Al, Cl, rfl, _, _⟩ := hl
  by_cases h0 : k = 0
  · subst h0
    have HF : Hid (laysF ⟨0, a, b, c⟩ n regs cells ins links = a) := hide rfl
    clear hk pr hcr hcc
    go_enter Try.func88, Try.ntmps88
    go_wp2
    go_ret
    exact ⟨by rw [HF.out]; rfl, HAL.out _ _⟩
  by_cases h1 : k = 1
  · subst h1
    have HF : Hid (laysF ⟨1, a, b, c⟩ n regs cells ins links = atF ins a) := hide rfl
    clear hk pr hcr hcc
    go_enter Try.func88, Try.ntmps88
    go_wp2_with fail
    refine (HI.out _ _ a).mono ?_
    rintro e w1 ⟨rfl, rfl⟩
    go_wp2
    go_ret
    exact ⟨by rw [HF.out]; rfl, HAL.out _ _⟩
  by_cases h2 : k = 2
  · subst h2
    have HF : Hid (laysF ⟨2, a, b, c⟩ n regs cells ins links = atF links a) := hide rfl
    clear hk pr hcr hcc
    go_enter Try.func88, Try.ntmps88
    go_wp2_with fail
    refine (HL.out _ _ a).mono ?_
    rintro e w1 ⟨rfl, rfl⟩
    go_wp2
    go_ret
    exact ⟨by rw [HF.out]; rfl, HAL.out _ _⟩
  by_cases h3 : k = 3
  · subst h3
    have HF : Hid (laysF ⟨3, a, b, c⟩ n regs cells ins links = atF cells a) := hide rfl
    have hca : regOk cells.length a = true := by
      unfold opOk at hk
      simp only [Bool.and_eq_true] at hk
      simpa using hk.1.2
    have hpos : 0 < cells.length := by unfold regOk at hca; simp only [Bool.and_eq_true, decide_eq_true_eq] at hca; omega
    obtain ⟨bc, oc, rfl, hbc, hrc⟩ := hcc hpos
    obtain ⟨ka, rfl, i1, i2, x1⟩ := row_two hbc hrc hca
    generalize atF cells (ka : Int) = z at HF x1
    clear hk pr hcr hcc hrc hca
    go_enter Try.func88, Try.ntmps88
    go_wp2
    go_ret
    exact ⟨by rw [HF.out]; rfl, HAL.out _ _⟩
  by_cases h4 : k = 4
  · subst h4
    have HF : Hid (laysF ⟨4, a, b, c⟩ n regs cells ins links = b2i (decide (n = 0))) := hide rfl
    clear hk pr hcr hcc
    go_enter Try.func88, Try.ntmps88
    go_wp2_with fail
    refine (HN.out _ n).mono ?_
    rintro e w1 ⟨rfl, rfl⟩
    go_wp2
    go_ret
    exact ⟨by rw [HF.out]; rfl, HAL.out _ _⟩
  have ha : regOk regs.length a = true := pr a (by
    unfold readsF opArgs
    rw [if_neg (by omega)]
    split
    · simp
    · split <;> simp)
  have hpos : 0 < regs.length := by unfold regOk at ha; simp only [Bool.and_eq_true, decide_eq_true_eq] at ha; omega
  obtain ⟨br, or, rfl, hbr, hrr⟩ := hcr hpos
  by_cases h13 : k = 13
  · subst h13
    have HF : Hid (laysF ⟨13, a, b, c⟩ n regs cells ins links = b2i (decide (atF regs a = 0))) := hide rfl
    obtain ⟨ka, rfl, i1, i2, x1⟩ := row_two hbr hrr ha
    generalize atF regs (ka : Int) = z at HF x1
    clear hk pr hcr hcc hrr ha
    go_enter Try.func88, Try.ntmps88
    go_wp2_with fail
    refine (HN.out _ z).mono ?_
    rintro e w1 ⟨rfl, rfl⟩
    go_wp2
    go_ret
    exact ⟨by rw [HF.out]; rfl, HAL.out _ _⟩
  have hb : regOk regs.length b = true := pr b (by
    unfold readsF opArgs
    rw [if_neg (by omega), if_neg h13]
    split <;> simp)
  by_cases h14 : k = 14
  · subst h14
    have hc : regOk regs.length c = true := pr c (by simp [readsF, opArgs])
    have HF : Hid (laysF ⟨14, a, b, c⟩ n regs cells ins links = choF (atF regs a) (atF regs b) (atF regs c)) := hide (by
      show (if atF regs a = 0 then atF regs c else atF regs b) = _
      unfold choF
      by_cases h : atF regs a = 0
      · rw [if_pos h, if_neg (by simpa using h)]
      · rw [if_neg h, if_pos h])
    obtain ⟨ka, rfl, i1, i2, x1⟩ := row_two hbr hrr ha
    obtain ⟨kb, rfl, i3, i4, x2⟩ := row_two hbr hrr hb
    obtain ⟨kc, rfl, i5, i6, x3⟩ := row_two hbr hrr hc
    generalize atF regs (ka : Int) = za at HF x1
    generalize atF regs (kb : Int) = zb at HF x2
    generalize atF regs (kc : Int) = zc at HF x3
    clear hk pr hcr hcc hrr ha hb hc
    go_enter Try.func88, Try.ntmps88
    go_wp2_with fail
    go_region_held3 (fun w' => w'.cell? ⟨w.heap.size, 1, none⟩ = some (.int .i64 (ka : Int)) ∧ w'.cell? ⟨w.heap.size, 2, none⟩ = some (.int .i64 (kb : Int)) ∧ w'.cell? ⟨w.heap.size, 3, none⟩ = some (.int .i64 (kc : Int)) ∧ w'.cell? ⟨br, or + ka, none⟩ = some (.int .i64 za) ∧ w'.cell? ⟨br, or + kb, none⟩ = some (.int .i64 zb) ∧ w'.cell? ⟨br, or + kc, none⟩ = some (.int .i64 zc)) (go_keep) ((go_at_call 128; refine (HCH.out _ za zb zc).mono ?_; rintro e w3 ⟨rfl, hw3⟩; subst hw3))
    rename_i hHeld
    clear hHeld
    go_wp2
    go_ret
    exact ⟨by rw [HF.out]; rfl, by first | exact below_drewN (HAL.out _ _) _ | exact (HAL.out _ _).drew⟩
  obtain ⟨m, rfl⟩ : ∃ m : Nat, k = (m : Int) := ⟨k.toNat, by omega⟩
  have HF : Hid (laysF ⟨(m : Int), a, b, c⟩ n regs cells ins links = pairF m (atF regs a) (atF regs b)) := hide (lays_pair (by omega) (by omega) a b c n regs cells ins links)
  have HP := hide (fun W x y => pair_any m W x y)
  have no : ∀ z : Int, (m : Int) ≠ z → ((m : Int) == z) = false := fun z h => by rw [beq_eq_false_iff_ne]; exact h
  have q0 := no 0 h0
  have q1 := no 1 h1
  have q2 := no 2 h2
  have q3 := no 3 h3
  have q4 := no 4 h4
  have q13 := no 13 h13
  have q14 := no 14 h14
  obtain ⟨ka, rfl, i1, i2, x1⟩ := row_two hbr hrr ha
  obtain ⟨kb, rfl, i3, i4, x2⟩ := row_two hbr hrr hb
  generalize atF regs (ka : Int) = za at HF x1
  generalize atF regs (kb : Int) = zb at HF x2
  clear hk pr hcr hcc hrr ha hb no h0 h1 h2 h3 h4 h13 h14
  go_enter Try.func88, Try.ntmps88
  go_wp2_with fail
  go_region_held3 (fun w' => w'.cell? ⟨w.heap.size, 0, none⟩ = some (.int .i64 (m : Int)) ∧ w'.cell? ⟨w.heap.size, 1, none⟩ = some (.int .i64 (ka : Int)) ∧ w'.cell? ⟨w.heap.size, 2, none⟩ = some (.int .i64 (kb : Int)) ∧ w'.cell? ⟨br, or + ka, none⟩ = some (.int .i64 za) ∧ w'.cell? ⟨br, or + kb, none⟩ = some (.int .i64 zb)) (go_keep) ((go_at_call 129; refine (HP.out _ za zb).mono ?_; rintro e w3 ⟨rfl, hw3⟩; subst hw3))
  rename_i hHeld
  clear hHeld
  go_wp2
  go_ret
  exact ⟨by rw [HF.out]; rfl, by first | exact below_drewN (HAL.out _ _) _ | exact (HAL.out _ _).drew⟩

end Go.Proofs.Ytmndgoapkmhglaa

/- the program's machine: formed. -/
namespace Go.Proofs.Ytmndgoapkmhglaa
open Go.RowKit
attribute [local go_sem ↓] Go.wp_at_zero Go.wp_at_succ

theorem formed_split (c : CdF) (h1 : c.ops.length ≤ 1500) (h2 : c.next.length ≤ 1500) (h3 : c.out.length ≤ 1500) (h4 : c.next.length = c.cells.length) : formedF c = (opsOk c.cells.length 0 c.ops && (c.next.all (regOk c.ops.length) && c.out.all (regOk c.ops.length))) := by
  unfold formedF
  rw [decide_eq_true h1, decide_eq_true h2, decide_eq_true h3, decide_eq_true h4.symm]
  simp [Bool.and_assoc]

set_option maxHeartbeats 4000000 in
set_option maxRecDepth 100000 in
theorem pformed_any (w : World) (vO vC vN vU : Value) (c : CdF) (h : CodeAt w vO vC vN vU c) :
    Calls Try.prog 87 #[.agg #[vO, vC, vN, vU]] w fun e w' => e = .returned (.bool (formedF c)) ∧ Below w.heap.size w w' := by
  have HH := hide h
  obtain ⟨Ao, Co, rfl, hmo, hco⟩ := h.ops
  obtain ⟨Ac, Cc, rfl, hmc, hcc⟩ := h.cells
  obtain ⟨An, Cn, rfl, hmn, hcn⟩ := h.next
  obtain ⟨Au, Cu, rfl, hmu, hcu⟩ := h.out
  obtain ⟨bx, hbx⟩ : ∃ bx, bx = w.alloc (.cells #[.slice Ao c.ops.length Co, .slice Ac c.cells.length Cc, .slice An c.next.length Cn, .slice Au c.out.length Cu] 60) := ⟨_, rfl⟩
  have HB0 : Hid (Below w.heap.size w bx) := hide (by rw [hbx]; exact (Below.refl _ _).alloc (Nat.le_refl _) _)
  have HSZ : Hid (w.heap.size < bx.heap.size) := hide (by rw [hbx]; simp)
  have HC : Hid (∀ W, Below bx.heap.size bx W → W.cell? ⟨w.heap.size, 0, none⟩ = some (.slice Ao c.ops.length Co) ∧ W.cell? ⟨w.heap.size, 1, none⟩ = some (.slice Ac c.cells.length Cc) ∧ W.cell? ⟨w.heap.size, 2, none⟩ = some (.slice An c.next.length Cn) ∧ W.cell? ⟨w.heap.size, 3, none⟩ = some (.slice Au c.out.length Cu)) := hide (fun W hW => by
    have hN : W.heap[w.heap.size]? = some (.cells #[.slice Ao c.ops.length Co, .slice Ac c.cells.length Cc, .slice An c.next.length Cn, .slice Au c.out.length Cu] 60) := (hW.block w.heap.size HSZ.out).trans (by rw [hbx]; exact heap_alloc_new w _)
    exact ⟨by rw [cell_of_row W _ 0 _ _ _ hN]; rfl, by rw [cell_of_row W _ 1 _ _ _ hN]; rfl, by rw [cell_of_row W _ 2 _ _ _ hN]; rfl, by rw [cell_of_row W _ 3 _ _ _ hN]; rfl⟩)
  have HCO := hide hco
  clear hco hcc hcn hcu h
  by_cases hhd : c.ops.length ≤ 1500 ∧ c.next.length ≤ 1500 ∧ c.out.length ≤ 1500 ∧ c.next.length = c.cells.length
  case neg =>
    have HF : Hid (formedF c = false) := hide (by
      unfold formedF
      by_cases a1 : c.ops.length ≤ 1500
      · by_cases a2 : c.next.length ≤ 1500
        · by_cases a3 : c.out.length ≤ 1500
          · by_cases a4 : c.cells.length = c.next.length
            · exact absurd ⟨a1, a2, a3, a4.symm⟩ hhd
            · rw [decide_eq_false a4]; simp
          · rw [decide_eq_false a3]; simp
        · rw [decide_eq_false a2]; simp
      · rw [decide_eq_false a1]; simp)
    have hcs : (c.ops.length : Int) > 1500 ∨ (¬ (c.ops.length : Int) > 1500 ∧ (c.next.length : Int) > 1500) ∨ (¬ (c.ops.length : Int) > 1500 ∧ ¬ (c.next.length : Int) > 1500 ∧ (c.out.length : Int) > 1500) ∨ (¬ (c.ops.length : Int) > 1500 ∧ ¬ (c.next.length : Int) > 1500 ∧ ¬ (c.out.length : Int) > 1500 ∧ ((c.next.length : Int) != (c.cells.length : Int)) = true) := by
      by_cases a1 : c.ops.length ≤ 1500
      · by_cases a2 : c.next.length ≤ 1500
        · by_cases a3 : c.out.length ≤ 1500
          · by_cases a4 : c.next.length = c.cells.length
            · exact absurd ⟨a1, a2, a3, a4⟩ hhd
            · exact .inr (.inr (.inr ⟨by omega, by omega, by omega, by rw [bne_iff_ne]; omega⟩))
          · exact .inr (.inr (.inl ⟨by omega, by omega, by omega⟩))
        · exact .inr (.inl ⟨by omega, by omega⟩)
      · exact .inl (by omega)
    clear hhd HC HCO
    rcases hcs with z1 | ⟨z1, z2⟩ | ⟨z1, z2, z3⟩ | ⟨z1, z2, z3, z4⟩
    all_goals
      go_enter Try.func87, Try.ntmps87
      go_wp2
      go_ret
      exact ⟨by rw [HF.out]; rfl, by first | exact (Below.refl _ _).alloc (Nat.le_refl _) _ | exact below_drewN ((Below.refl _ _).alloc (Nat.le_refl _) _) _⟩
  case pos =>
    obtain ⟨a1, a2, a3, a4⟩ := hhd
    have HFS := hide (formed_split c a1 a2 a3 a4)
    have y1 : ¬ (c.ops.length : Int) > 1500 := by omega
    have y2 : ¬ (c.next.length : Int) > 1500 := by omega
    have y3 : ¬ (c.out.length : Int) > 1500 := by omega
    have y4 : ((c.next.length : Int) != (c.cells.length : Int)) = false := by rw [a4]; simp
    have HOF := hide (fun W (o : OpF) i => opFormed_any W o i c.cells.length)
    have HA4 := hide a4
    clear a4
    go_enter Try.func87, Try.ntmps87
    go_wp2
    rw [← hbx]
    go_loopw [31] (fun vi wr => ∃ k : Nat, k ≤ c.ops.length ∧ vi = .int .i64 k ∧ Below bx.heap.size bx wr ∧ opsOk c.cells.length k (c.ops.drop k) = opsOk c.cells.length 0 c.ops) (fun vi _ => c.ops.length - (intOf vi).toNat)
    case atStart => exact ⟨0, Nat.zero_le _, rfl, Below.refl _ _, rfl⟩
    case round =>
      obtain ⟨k, hk, rfl, hbr, hrec⟩ := hrel
      obtain ⟨x0, x1, x2, x3⟩ := HC.out wr hbr
      have HBR := hide hbr
      have HRC := hide hrec
      have HBW := hide (HB0.out.trans (hbr.mono HB0.out.size))
      clear hrec
      by_cases hkl : k < c.ops.length
      · obtain ⟨b, o, rfl, hbl, hcell⟩ := HCO.out (by omega)
        obtain ⟨op, hop⟩ : ∃ op, op = c.ops[k]'hkl := ⟨_, rfl⟩
        obtain ⟨c0, c1, c2, c3⟩ := hcell k hkl
        rw [← hop] at c0 c1 c2 c3
        have d0 := (HBW.out.cell (p := ⟨b, o + k * 4, none⟩) hbl).trans c0
        have d1 := (HBW.out.cell (p := ⟨b, o + k * 4 + 1, none⟩) hbl).trans c1
        have d2 := (HBW.out.cell (p := ⟨b, o + k * 4 + 2, none⟩) hbl).trans c2
        have d3 := (HBW.out.cell (p := ⟨b, o + k * 4 + 3, none⟩) hbl).trans c3
        have hstep : opsOk c.cells.length 0 c.ops = (opOk c.cells.length k op && opsOk c.cells.length (k + 1) (c.ops.drop (k + 1))) := by
          rw [← HRC.out, List.drop_eq_getElem_cons hkl, ← hop]; rfl
        have HST := hide hstep
        have x1a : ∀ ob, (wr.alloc ob).cell? ⟨w.heap.size, 1, none⟩ = some (.slice Ac c.cells.length Cc) := fun ob => (HC.out _ (HBR.out.alloc HBR.out.size ob)).2.1
        have HAL : Hid (∀ ob, Below bx.heap.size bx (wr.alloc ob)) := hide (fun ob => HBR.out.alloc HBR.out.size ob)
        have HOP := hide (fun W => HOF.out W op k)
        obtain ⟨ok, hokk⟩ : ∃ ok, ok = opOk c.cells.length k op := ⟨_, rfl⟩
        rw [← hokk] at HST HOP
        obtain ⟨pk, pa, pb, pc⟩ := op
        simp only at d0 d1 d2 d3 HOP
        have j3 : (0 : Int) ≤ (k : Int) := by omega
        have j4 : (k : Int) < (c.ops.length : Int) := by omega
        clear hcell c0 c1 c2 c3 hstep HRC hbr hop hokk
        cases ok with
        | true =>
          go_wp2_with fail
          refine (HOP.out _).mono ?_
          rintro e w5 ⟨rfl, hb5⟩
          have HB5 : Hid (Below bx.heap.size bx w5) := hide ((HAL.out _).trans (hb5.mono (HAL.out _).size))
          clear hb5
          go_wp2
          go_roundw
          case rel => exact ⟨k + 1, by omega, by go_num, by first | exact HB5.out | exact below_drewN HB5.out _, by rw [HST.out]; rfl⟩
          case measure => simp [intOf]; omega
        | false =>
          have HF : Hid (formedF c = false) := hide (by rw [HFS.out, HST.out]; rfl)
          go_wp2_with fail
          refine (HOP.out _).mono ?_
          rintro e w5 ⟨rfl, hb5⟩
          have HB5 : Hid (Below w.heap.size w w5) := hide (HB0.out.trans (((HAL.out _).trans (hb5.mono (HAL.out _).size)).mono HB0.out.size))
          clear hb5
          go_wp2
          go_ret
          exact ⟨by rw [HF.out]; rfl, by first | exact HB5.out | exact below_drewN HB5.out _⟩
      · have ek : k = c.ops.length := by omega
        subst ek
        have z9 : ¬ (c.ops.length : Int) < (c.ops.length : Int) := by omega
        have hall := HRC.out
        rw [List.drop_length] at hall
        have HF2 : Hid (formedF c = (c.next.all (regOk c.ops.length) && c.out.all (regOk c.ops.length))) := hide (by rw [HFS.out, ← hall]; rfl)
        have HN := hide (allBelow_any wr _ c.next ((HH.out.below HBW.out).next) a2 c.ops.length)
        have HU := hide (allBelow_any wr _ c.out ((HH.out.below HBW.out).out) a3 c.ops.length)
        clear hall HRC HFS hbr
        obtain ⟨na, hna⟩ : ∃ na, na = c.next.all (regOk c.ops.length) := ⟨_, rfl⟩
        rw [← hna] at HF2 HN
        clear hna
        cases na with
        | true =>
          go_wp2_with fail
          refine HN.out.mono ?_
          rintro e w5 ⟨rfl, rfl⟩
          go_wp2_with fail
          refine HU.out.mono ?_
          rintro e w5 ⟨rfl, rfl⟩
          go_wp2
          go_ret
          exact ⟨by rw [HF2.out]; rfl, by first | exact HBW.out | exact below_drewN HBW.out _⟩
        | false =>
          go_wp2_with fail
          refine HN.out.mono ?_
          rintro e w5 ⟨rfl, rfl⟩
          go_wp2
          go_ret
          exact ⟨by rw [HF2.out]; rfl, by first | exact HBW.out | exact below_drewN HBW.out _⟩

end Go.Proofs.Ytmndgoapkmhglaa

/- the program's machine: pick, Exec. -/
namespace Go.Proofs.Ytmndgoapkmhglaa
open Go.RowKit
attribute [local go_sem ↓] Go.wp_at_zero Go.wp_at_succ

/-- a row that was made is its maker's. -/
theorem own_made {w : World} {g : Nat} {l : List Int} (h : w.rowIs g 3 l.length (fun j => .int .i64 (l.getD j 0))) (hl : l.length ≤ 1500) : w.ownsRow g 3 1 (.slice (some ⟨g, 0, none⟩) l.length l.length) l.length (iCells l) := by
  obtain ⟨c, h1, h2, h3⟩ := h
  refine ⟨by simp [iCells], .inr ⟨g, l.length, c, rfl, Nat.le_refl _, h1, Nat.le_refl _, by unfold maxLen; omega, by omega, ?_⟩⟩
  apply List.ext_getElem?
  intro i
  rw [Nat.mul_one]
  by_cases hi : i < l.length
  · rw [List.getElem?_take, if_pos hi, Array.getElem?_toList, h3 i hi, iCells_get, List.getElem?_eq_getElem hi]
    show some (Value.int .i64 (l.getD i 0)) = _
    rw [List.getD_eq_getElem?_getD, List.getElem?_eq_getElem hi]; rfl
  · rw [List.getElem?_take, if_neg hi, iCells_get, List.getElem?_eq_none (by omega)]; rfl

set_option maxHeartbeats 1000000 in
theorem mpick_any (w : World) (vr vn : Value) (regs nm : List Int) (hr : RowAt w vr regs) (hn : RowAt w vn nm) (hl : nm.length ≤ 1500) (hok : ∀ x ∈ nm, regOk regs.length x = true) :
    Calls Try.prog 89 #[vr, vn] w fun e w' => ∃ v, e = .returned v ∧ w'.ownsRow w.heap.size 3 1 v nm.length (iCells (nm.map (atF regs))) ∧ Below w.heap.size w w' := by
  obtain ⟨Ar, Cr, rfl, hmr, hcr⟩ := hr
  obtain ⟨An, Cn, rfl, hmn, hcn⟩ := hn
  have hm2 := run_make_row' (P := Try.prog) 48 3 (.int .i64 0) 8 Try.underlying48 Try.infoInt rfl .i64 .i64 nm.length (by omega) (by omega)
  have HCR := hide hcr
  have HCN := hide hcn
  have HOK := hide hok
  have HS : Hid (∀ o, o = .cells (madeCells #[.int .i64 0] nm.length) 3 → (w.alloc o).rowIs w.heap.size 3 nm.length (fun j => .int .i64 (if j < 0 then atF regs (nm.getD j 0) else 0)) ∧ Below w.heap.size w (w.alloc o)) := hide (fun o ho => by
    subst ho
    exact ⟨(World.rowIs_made w (.int .i64 0) nm.length 3).congr (fun j _ => by simp), (Below.refl _ _).alloc (Nat.le_refl _) _⟩)
  clear hcr hcn hok
  go_enter Try.func89, Try.ntmps89
  go_wp2
  go_loopw [13] (fun vk wr => ∃ k : Nat, k ≤ nm.length ∧ vk = .int .i64 k ∧ wr.rowIs w.heap.size 3 nm.length (fun j => .int .i64 (if j < k then atF regs (nm.getD j 0) else 0)) ∧ Below w.heap.size w wr) (fun vk _ => nm.length - (intOf vk).toNat)
  case atStart => exact ⟨0, Nat.zero_le _, rfl, (HS.out _ rfl).1, (HS.out _ rfl).2⟩
  case round =>
    clear HS
    obtain ⟨k, hk, rfl, hrow, hbel⟩ := hrel
    by_cases hkl : k < nm.length
    · obtain ⟨bn, on, rfl, hbn, hrn⟩ := HCN.out (by omega)
      have d0 := (hbel.cell (p := ⟨bn, on + k, none⟩) hbn).trans (hrn k hkl)
      have hreg := HOK.out nm[k] (List.getElem_mem hkl)
      have hpos : 0 < regs.length := by unfold regOk at hreg; simp only [Bool.and_eq_true, decide_eq_true_eq] at hreg; omega
      obtain ⟨br, or, rfl, hbr, hrr⟩ := HCR.out hpos
      obtain ⟨ka, hka⟩ : ∃ ka : Nat, nm[k] = (ka : Int) := ⟨nm[k].toNat, by unfold regOk at hreg; simp only [Bool.and_eq_true, decide_eq_true_eq] at hreg; omega⟩
      rw [hka] at d0 hreg
      have hka2 : ka < regs.length := by unfold regOk at hreg; simp only [Bool.and_eq_true, decide_eq_true_eq] at hreg; omega
      have hval : atF regs (nm.getD k 0) = regs[ka] := by
        rw [List.getD_eq_getElem?_getD, List.getElem?_eq_getElem hkl]
        show atF regs nm[k] = _
        rw [hka]; unfold atF
        rw [if_neg (by omega), Int.toNat_natCast, List.getD_eq_getElem?_getD, List.getElem?_eq_getElem hka2]; rfl
      have d1 := (hbel.cell (p := ⟨br, or + ka, none⟩) hbr).trans (hrr ka hka2)
      have i1 : (0 : Int) ≤ (k : Int) := by omega
      have i2 : (k : Int) < (nm.length : Int) := by omega
      have i3 : (0 : Int) ≤ (ka : Int) := by omega
      have i4 : (ka : Int) < (regs.length : Int) := by omega
      have x0 := hrow.cell hkl
      have f0 := hrow.frozen k
      have HV := hide hval
      have HROW := hide hrow
      have HBEL := hide hbel
      generalize regs[ka] = z at d1 HV
      clear hval hrow hbel hrn hrr hreg hka hka2
      go_wp2
      go_roundw
      case rel =>
        refine ⟨k + 1, by omega, by go_num, (HROW.out.set k (.int .i64 z)).congr (fun j _ => ?_), HBEL.out.setCell (Nat.le_refl _) _⟩
        by_cases e : j = k
        · subst e
          show (if j = j then Value.int .i64 z else _) = Value.int .i64 (if j < j + 1 then atF regs (nm.getD j 0) else 0)
          rw [if_pos rfl, if_pos (by omega), HV.out]
        · by_cases e2 : j < k
          · simp [e, e2, show j < k + 1 by omega]
          · simp [e, e2, show ¬ j < k + 1 by omega]
      case measure => simp [intOf]; omega
    · have ek : k = nm.length := by omega
      subst ek
      have z9 : ¬ (nm.length : Int) < (nm.length : Int) := by omega
      have HROW := hide hrow
      have HBEL := hide hbel
      clear hrow hbel
      go_wp2
      go_ret
      refine ⟨_, rfl, ?_, HBEL.out⟩
      have h5 : (nm.map (atF regs)).length = nm.length := List.length_map _
      have h6 := own_made (l := nm.map (atF regs)) (w := _) (g := w.heap.size) (by
        rw [h5]
        exact HROW.out.congr (fun j hj => by
          rw [if_pos hj, List.getD_eq_getElem?_getD, List.getD_eq_getElem?_getD, List.getElem?_map, List.getElem?_eq_getElem hj]; rfl)) (by rw [h5]; exact hl)
      rw [h5] at h6
      exact h6

end Go.Proofs.Ytmndgoapkmhglaa
