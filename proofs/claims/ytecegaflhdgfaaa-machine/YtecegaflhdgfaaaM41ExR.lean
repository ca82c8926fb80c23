import Derived.Test.YtecegaflhdgfaaaM12ScanA
import Derived.Test.YtecegaflhdgfaaaM40PExA
/- the program's machine: opFormed. -/
namespace Go.Proofs.Ytecegaflhdgfaaa
open Go.RowKit
attribute [local go_sem ↓] Go.wp_at_zero Go.wp_at_succ

theorem opOk_eq (nc i : Nat) (k a b c : Int) (h0 : 0 ≤ k) (h14 : k ≤ 14) (h3 : k ≠ 3) : opOk nc i ⟨k, a, b, c⟩ = ([a, b, c].take (readsF k)).all (regOk i) := by
  unfold opOk
  rw [decide_eq_true h0, decide_eq_true h14, decide_eq_true h3]
  simp [opArgs]

set_option maxHeartbeats 2000000 in
set_option maxRecDepth 100000 in
theorem opFormed_any (w : World) (o : OpF) (i nc : Nat) :
    Calls Try.prog 106 #[.agg #[.int .i64 o.k, .int .i64 o.a, .int .i64 o.b, .int .i64 o.c], .int .i64 (i : Int), .int .i64 (nc : Int)] w fun e w' => e = .returned (.bool (opOk nc i o)) ∧ Below w.heap.size w w' := by
  obtain ⟨k, a, b, c⟩ := o
  have HAL : Hid (∀ ob, Below w.heap.size w (w.alloc ob)) := hide (fun ob => (Below.refl _ _).alloc (Nat.le_refl _) ob)
  have HA := hide (fun W (n : Nat) => below_any W a (n : Int))
  have HB := hide (fun W (n : Nat) => below_any W b (n : Int))
  have HC := hide (fun W (n : Nat) => below_any W c (n : Int))
  by_cases h0 : k = 0 ∨ k = 1 ∨ k = 2 ∨ k = 4
  · have HF : Hid (opOk nc i ⟨k, a, b, c⟩ = true) := hide (by rcases h0 with rfl | rfl | rfl | rfl <;> simp [opOk, readsF, opArgs])
    rcases h0 with rfl | rfl | rfl | rfl
    all_goals
      go_enter Try.func106, Try.ntmps106
      go_wp2
      go_ret
      exact ⟨by rw [HF.out]; rfl, HAL.out _⟩
  by_cases h3 : k = 3
  · subst h3
    have HF : Hid (opOk nc i ⟨3, a, b, c⟩ = regOk nc a) := hide (by simp [opOk, readsF, opArgs])
    clear h0
    go_enter Try.func106, Try.ntmps106
    go_wp2_with fail
    refine (HA.out _ _).mono ?_
    rintro e w1 ⟨rfl, rfl⟩
    go_wp2
    go_ret
    exact ⟨by rw [HF.out]; rfl, HAL.out _⟩
  by_cases h13 : k = 13
  · subst h13
    have HF : Hid (opOk nc i ⟨13, a, b, c⟩ = regOk i a) := hide (by rw [opOk_eq _ _ _ _ _ _ (by omega) (by omega) (by omega)]; simp [readsF])
    clear h0 h3
    go_enter Try.func106, Try.ntmps106
    go_wp2_with fail
    refine (HA.out _ _).mono ?_
    rintro e w1 ⟨rfl, rfl⟩
    go_wp2
    go_ret
    exact ⟨by rw [HF.out]; rfl, HAL.out _⟩
  by_cases h14 : k = 14
  · subst h14
    have HF : Hid (opOk nc i ⟨14, a, b, c⟩ = (regOk i a && (regOk i b && regOk i c))) := hide (by rw [opOk_eq _ _ _ _ _ _ (by omega) (by omega) (by omega)]; simp [readsF])
    clear h0 h3 h13
    cases ha : regOk i a with
    | false =>
      rw [ha] at HF
      have HA' := hide (fun W => HA.out W i)
      rw [belF_reg, ha] at HA'
      clear HA ha
      go_enter Try.func106, Try.ntmps106
      go_wp2_with fail
      refine (HA'.out _).mono ?_
      rintro e w1 ⟨rfl, rfl⟩
      go_wp2
      go_ret
      exact ⟨by rw [HF.out]; rfl, HAL.out _⟩
    | true =>
      rw [ha] at HF
      have HA' := hide (fun W => HA.out W i)
      rw [belF_reg, ha] at HA'
      clear HA ha
      cases hb : regOk i b with
      | false =>
        rw [hb] at HF
        have HB' := hide (fun W => HB.out W i)
        rw [belF_reg, hb] at HB'
        clear HB hb
        go_enter Try.func106, Try.ntmps106
        go_wp2_with fail
        refine (HA'.out _).mono ?_
        rintro e w1 ⟨rfl, rfl⟩
        go_wp2_with fail
        refine (HB'.out _).mono ?_
        rintro e w1 ⟨rfl, rfl⟩
        go_wp2
        go_ret
        exact ⟨by rw [HF.out]; rfl, HAL.out _⟩
      | true =>
        rw [hb] at HF
        have HB' := hide (fun W => HB.out W i)
        rw [belF_reg, hb] at HB'
        clear HB hb
        go_enter Try.func106, Try.ntmps106
        go_wp2_with fail
        refine (HA'.out _).mono ?_
        rintro e w1 ⟨rfl, rfl⟩
        go_wp2_with fail
        refine (HB'.out _).mono ?_
        rintro e w1 ⟨rfl, rfl⟩
        go_wp2_with fail
        refine (HC.out _ _).mono ?_
        rintro e w1 ⟨rfl, rfl⟩
        go_wp2
        go_ret
        exact ⟨by rw [HF.out]; rfl, HAL.out _⟩
  have no : ∀ z : Int, k ≠ z → (k == z) = false := fun z h => by rw [beq_eq_false_iff_ne]; exact h
  have q0 := no 0 (fun e => h0 (.inl e))
  have q1 := no 1 (fun e => h0 (.inr (.inl e)))
  have q2 := no 2 (fun e => h0 (.inr (.inr (.inl e))))
  have q4 := no 4 (fun e => h0 (.inr (.inr (.inr e))))
  have q3 := no 3 h3
  have q13 := no 13 h13
  have q14 := no 14 h14
  by_cases hlo : k < 5
  · have HF : Hid (opOk nc i ⟨k, a, b, c⟩ = false) := hide (by
      have : ¬ 0 ≤ k := by omega
      unfold opOk; rw [decide_eq_false this]; rfl)
    clear h0 h3 h13 h14 no
    go_enter Try.func106, Try.ntmps106
    go_wp2
    go_ret
    exact ⟨by rw [HF.out]; rfl, HAL.out _⟩
  by_cases hhi : k > 12
  · have HF : Hid (opOk nc i ⟨k, a, b, c⟩ = false) := hide (by
      have : ¬ k ≤ 14 := by omega
      unfold opOk; rw [decide_eq_false this]; simp)
    clear h0 h3 h13 h14 no
    go_enter Try.func106, Try.ntmps106
    go_wp2
    go_ret
    exact ⟨by rw [HF.out]; rfl, HAL.out _⟩
  have HF : Hid (opOk nc i ⟨k, a, b, c⟩ = (regOk i a && regOk i b)) := hide (by
    rw [opOk_eq _ _ _ _ _ _ (by omega) (by omega) h3]
    unfold readsF; rw [if_neg hlo, if_neg h13, if_neg h14]; simp)
  clear h0 h3 h13 h14 no
  cases ha : regOk i a with
  | false =>
    rw [ha] at HF
    have HA' := hide (fun W => HA.out W i)
    rw [belF_reg, ha] at HA'
    clear HA ha
    go_enter Try.func106, Try.ntmps106
    go_wp2_with fail
    refine (HA'.out _).mono ?_
    rintro e w1 ⟨rfl, rfl⟩
    go_wp2
    go_ret
    exact ⟨by rw [HF.out]; rfl, HAL.out _⟩
  | true =>
    rw [ha] at HF
    have HA' := hide (fun W => HA.out W i)
    rw [belF_reg, ha] at HA'
    clear HA ha
    go_enter Try.func106, Try.ntmps106
    go_wp2_with fail
    refine (HA'.out _).mono ?_
    rintro e w1 ⟨rfl, rfl⟩
    go_wp2_with fail
    refine (HB.out _ _).mono ?_
    rintro e w1 ⟨rfl, rfl⟩
    go_wp2
    go_ret
    exact ⟨by rw [HF.out]; rfl, HAL.out _⟩

end Go.Proofs.Ytecegaflhdgfaaa

/- Plain mathematics: what a register holds. -/
namespace Go.Proofs.Ytecegaflhdgfaaa

theorem regsF_app (n : Int) (cells ins links : List Int) : ∀ (l m : List OpF) (regs : List Int), regsF n cells ins links regs (l ++ m) = regsF n cells ins links (regsF n cells ins links regs l) m := by
  intro l
  induction l with
  | nil => intro m regs; rfl
  | cons a r ih => intro m regs; exact ih m _
theorem regsF_more (n : Int) (cells ins links : List Int) : ∀ (l : List OpF) (regs : List Int), ∃ x, regsF n cells ins links regs l = regs ++ x := by
  intro l
  induction l with
  | nil => intro regs; exact ⟨[], by simp [regsF]⟩
  | cons a r ih =>
    intro regs
    obtain ⟨x, hx⟩ := ih (regs ++ [laysF a n regs cells ins links])
    exact ⟨[laysF a n regs cells ins links] ++ x, by simp only [regsF]; rw [hx, List.append_assoc]⟩

theorem lays_congr {o : OpF} (h0 : 0 ≤ o.k) (h1 : o.k ≤ 14) {n : Int} {cells ins links r r' : List Int} (h : ∀ x ∈ (opArgs o).take (readsF o.k), atF r x = atF r' x) : laysF o n r cells ins links = laysF o n r' cells ins links := by
  unfold laysF
  by_cases k0 : o.k = 0; · rw [if_pos k0, if_pos k0]
  rw [if_neg k0, if_neg k0]
  by_cases k1 : o.k = 1; · rw [if_pos k1, if_pos k1]
  rw [if_neg k1, if_neg k1]
  by_cases k2 : o.k = 2; · rw [if_pos k2, if_pos k2]
  rw [if_neg k2, if_neg k2]
  by_cases k3 : o.k = 3; · rw [if_pos k3, if_pos k3]
  rw [if_neg k3, if_neg k3]
  by_cases k4 : o.k = 4; · rw [if_pos k4, if_pos k4]
  rw [if_neg k4, if_neg k4]
  have ha : atF r o.a = atF r' o.a := h _ (by
    unfold readsF opArgs
    rw [if_neg (by omega)]
    split
    · simp
    · split <;> simp)
  have hb : o.k ≠ 13 → atF r o.b = atF r' o.b := fun hk => h _ (by
    unfold readsF opArgs
    rw [if_neg (by omega), if_neg hk]
    split <;> simp)
  have hc : o.k = 14 → atF r o.c = atF r' o.c := fun hk => h _ (by
    unfold readsF opArgs
    rw [if_neg (by omega), if_neg (by omega), if_pos hk]
    simp)
  by_cases k13 : o.k = 13
  · simp only [k13, ha]
    rfl
  · rw [ha, hb k13]
    by_cases k14 : o.k = 14
    · rw [hc k14]
    · by_cases k5 : o.k = 5; · rw [if_pos k5, if_pos k5]
      rw [if_neg k5, if_neg k5]
      by_cases k6 : o.k = 6; · rw [if_pos k6, if_pos k6]
      rw [if_neg k6, if_neg k6]
      by_cases k7 : o.k = 7; · rw [if_pos k7, if_pos k7]
      rw [if_neg k7, if_neg k7]
      by_cases k8 : o.k = 8; · rw [if_pos k8, if_pos k8]
      rw [if_neg k8, if_neg k8]
      by_cases k9 : o.k = 9; · rw [if_pos k9, if_pos k9]
      rw [if_neg k9, if_neg k9]
      by_cases k10 : o.k = 10; · rw [if_pos k10, if_pos k10]
      rw [if_neg k10, if_neg k10]
      by_cases k11 : o.k = 11; · rw [if_pos k11, if_pos k11]
      rw [if_neg k11, if_neg k11]
      by_cases k12 : o.k = 12; · rw [if_pos k12, if_pos k12]
      omega

theorem opOk_parts {nc j : Nat} {o : OpF} (h : opOk nc j o = true) : 0 ≤ o.k ∧ o.k ≤ 14 ∧ ∀ x ∈ (opArgs o).take (readsF o.k), regOk j x = true := by
  unfold opOk at h
  simp only [Bool.and_eq_true, decide_eq_true_eq, List.all_eq_true] at h
  obtain ⟨⟨⟨h1, h2⟩, _⟩, h4⟩ := h
  exact ⟨h1, h2, h4⟩
theorem atF_nat (l : List Int) (j : Nat) : atF l (j : Int) = l.getD j 0 := by
  unfold atF; rw [if_neg (by omega), Int.toNat_natCast]
theorem atF_pre {l x : List Int} {r : Int} (h : regOk l.length r = true) : atF (l ++ x) r = atF l r := by
  unfold regOk at h
  simp only [Bool.and_eq_true, decide_eq_true_eq] at h
  unfold atF
  rw [if_neg (by omega), if_neg (by omega), List.getD_eq_getElem?_getD, List.getD_eq_getElem?_getD, List.getElem?_append_left (by omega)]

/-- what a register holds in the end. -/
theorem reg_at {ops : List OpF} {n : Int} {cells ins links : List Int} {nc j : Nat} {o : OpF} (hj : ops[j]? = some o) (hok : opOk nc j o = true) :
    atF (regsF n cells ins links [] ops) (j : Int) = laysF o n (regsF n cells ins links [] ops) cells ins links := by
  obtain ⟨hl, hg⟩ := List.getElem?_eq_some_iff.1 hj
  have e : ops = ops.take j ++ (o :: ops.drop (j + 1)) := by
    rw [← hg, ← List.drop_eq_getElem_cons hl, List.take_append_drop]
  obtain ⟨P, hP⟩ : ∃ P, P = regsF n cells ins links [] (ops.take j) := ⟨_, rfl⟩
  have hPl : P.length = j := by rw [hP, regsF_len]; simp; omega
  obtain ⟨x, hx⟩ := regsF_more n cells ins links (ops.drop (j + 1)) (P ++ [laysF o n P cells ins links])
  have e2 : regsF n cells ins links [] ops = P ++ ([laysF o n P cells ins links] ++ x) := by
    conv => lhs; rw [e]
    rw [regsF_app, ← hP]
    show regsF n cells ins links (P ++ [laysF o n P cells ins links]) (ops.drop (j + 1)) = _
    rw [hx, List.append_assoc]
  obtain ⟨h0, h1, h2⟩ := opOk_parts hok
  rw [e2, atF_nat, List.getD_eq_getElem?_getD, List.getElem?_append_right (by omega), hPl, Nat.sub_self]
  show laysF o n P cells ins links = _
  exact lays_congr h0 h1 (fun r hr => (atF_pre (by rw [hPl]; exact h2 r hr)).symm)

end Go.Proofs.Ytecegaflhdgfaaa
