import Derived.Test.YtecegaflhdgfaaaM02Dig
import Derived.Test.YtecegaflhdgfaaaM11StrB
/- Plain mathematics: the machine. -/
namespace Go.Proofs.Ytecegaflhdgfaaa

/-- an operation. -/
structure OpF where
  k : Int
  a : Int
  b : Int
  c : Int
/-- code. -/
structure CdF where
  ops : List OpF
  cells : List Int
  next : List Int
  out : List Int

/-- entry i of a list; 0 if there is none. -/
def atF (l : List Int) (i : Int) : Int := if i < 0 then 0 else l.getD i.toNat 0
/-- how many registers an operation reads. -/
def readsF (k : Int) : Nat := if k < 5 then 0 else if k = 13 then 1 else if k = 14 then 3 else 2
def regOk (i : Nat) (r : Int) : Bool := decide (0 ≤ r) && decide (r < (i : Int))
def opArgs (o : OpF) : List Int := [o.a, o.b, o.c]
/-- may operation i be this one? -/
def opOk (nc i : Nat) (o : OpF) : Bool :=
  decide (0 ≤ o.k) && decide (o.k ≤ 14) && (decide (o.k ≠ 3) || regOk nc o.a) && ((opArgs o).take (readsF o.k)).all (regOk i)
def opsOk (nc : Nat) : Nat → List OpF → Bool
  | _, [] => true
  | i, o :: r => opOk nc i o && opsOk nc (i + 1) r
/-- is code well formed? -/
def formedF (c : CdF) : Bool :=
  decide (c.ops.length ≤ 1500) && decide (c.next.length ≤ 1500) && decide (c.out.length ≤ 1500) && decide (c.cells.length = c.next.length) && opsOk c.cells.length 0 c.ops && c.next.all (regOk c.ops.length) && c.out.all (regOk c.ops.length)

/-- what an operation lays into its register. -/
def laysF (o : OpF) (n : Int) (regs cells ins links : List Int) : Int :=
  if o.k = 0 then o.a else if o.k = 1 then atF ins o.a else if o.k = 2 then atF links o.a else if o.k = 3 then atF cells o.a else if o.k = 4 then b2i (decide (n = 0))
  else if o.k = 5 then w64 (atF regs o.a + atF regs o.b) else if o.k = 6 then w64 (atF regs o.a - atF regs o.b) else if o.k = 7 then w64 (atF regs o.a * atF regs o.b)
  else if o.k = 8 then apF [47] (atF regs o.a) (atF regs o.b) else if o.k = 9 then b2i (decide (atF regs o.a < atF regs o.b)) else if o.k = 10 then b2i (decide (atF regs o.a = atF regs o.b))
  else if o.k = 11 then b2i (decide (atF regs o.a ≠ 0) && decide (atF regs o.b ≠ 0)) else if o.k = 12 then b2i (decide (atF regs o.a ≠ 0) || decide (atF regs o.b ≠ 0))
  else if o.k = 13 then b2i (decide (atF regs o.a = 0)) else if atF regs o.a = 0 then atF regs o.c else atF regs o.b
/-- the registers behind operations. -/
def regsF (n : Int) (cells ins links : List Int) (regs : List Int) : List OpF → List Int
  | [] => regs
  | o :: r => regsF n cells ins links (regs ++ [laysF o n regs cells ins links]) r

theorem regsF_snoc (n : Int) (cells ins links : List Int) : ∀ (l : List OpF) (regs : List Int) (o : OpF), regsF n cells ins links regs (l ++ [o]) = regsF n cells ins links regs l ++ [laysF o n (regsF n cells ins links regs l) cells ins links] := by
  intro l
  induction l with
  | nil => intro regs o; rfl
  | cons a r ih => intro regs o; exact ih _ o
theorem regsF_len (n : Int) (cells ins links : List Int) : ∀ (l : List OpF) (regs : List Int), (regsF n cells ins links regs l).length = regs.length + l.length := by
  intro l
  induction l with
  | nil => intro regs; rfl
  | cons a r ih => intro regs; show (regsF _ _ _ _ _ r).length = _; rw [ih]; simp; omega

/-- the machine: an error, or what comes out and the cells' next. -/
def execF (c : CdF) (n : Int) (cells ins links : List Int) : Nat × List Int × List Int :=
  if formedF c = false then (9, [], []) else if n < 0 ∨ cells.length ≠ c.cells.length then (10, [], [])
  else (0, c.out.map (atF (regsF n cells ins links [] c.ops)), c.next.map (atF (regsF n cells ins links [] c.ops)))

end Go.Proofs.Ytecegaflhdgfaaa

namespace Go.Proofs.Ytecegaflhdgfaaa
open Go.RowKit

set_option maxHeartbeats 1000000 in
theorem classOf_any (c : Nat) (w : World) :
    Calls Try.prog 100 #[.int .u8 (c : Int)] w fun e w' => e = .returned (.int .i64 (cls c : Nat)) ∧ w = w' := by
  have hiv : c = 32 ∨ c = 10 ∨ (97 ≤ c ∧ c ≤ 122) ∨ (48 ≤ c ∧ c ≤ 57) ∨ ((c ≠ 32 ∧ c ≠ 10) ∧ (c < 48 ∨ (57 < c ∧ c < 97) ∨ 122 < c)) := by omega
  rcases hiv with h | h | ⟨h, h'⟩ | ⟨h, h'⟩ | ⟨⟨h3, h4⟩, hh⟩
  · subst h
    go_enter Try.func100, Try.ntmps100
    go_wp2
    go_ret
    exact ⟨rfl, rfl⟩
  · subst h
    go_enter Try.func100, Try.ntmps100
    go_wp2
    go_ret
    exact ⟨rfl, rfl⟩
  · have HF : Hid (cls c = 1) := hide (by unfold cls; rw [if_neg (by omega), if_pos ⟨h, h'⟩])
    have k3 : ((c : Int) == 32) = false := by simp; omega
    have k4 : ((c : Int) == 10) = false := by simp; omega
    go_enter Try.func100, Try.ntmps100
    go_wp2
    go_ret
    exact ⟨by rw [HF.out]; rfl, rfl⟩
  · have HF : Hid (cls c = 2) := hide (by unfold cls; rw [if_neg (by omega), if_neg (by omega), if_pos ⟨h, h'⟩])
    have k3 : ((c : Int) == 32) = false := by simp; omega
    have k4 : ((c : Int) == 10) = false := by simp; omega
    go_enter Try.func100, Try.ntmps100
    go_wp2
    go_ret
    exact ⟨by rw [HF.out]; rfl, rfl⟩
  · have k3 : ((c : Int) == 32) = false := by simp; omega
    have k4 : ((c : Int) == 10) = false := by simp; omega
    by_cases hs : signL.contains c = true
    · have HF : Hid (cls c = 3) := hide (by unfold cls; rw [if_neg (by omega), if_neg (by omega), if_neg (by omega), if_pos hs])
      have hc : c = 40 ∨ c = 41 ∨ c = 59 ∨ c = 61 ∨ c = 43 ∨ c = 45 ∨ c = 42 ∨ c = 47 ∨ c = 60 ∨ c = 38 ∨ c = 124 := by simpa [signL] using hs
      clear hs h3 h4 hh k3 k4
      rcases hc with rfl | rfl | rfl | rfl | rfl | rfl | rfl | rfl | rfl | rfl | rfl
      all_goals
        go_enter Try.func100, Try.ntmps100
        go_wp2
        go_ret
        exact ⟨by rw [HF.out]; rfl, rfl⟩
    · have HF : Hid (cls c = 4) := hide (by unfold cls; rw [if_neg (by omega), if_neg (by omega), if_neg (by omega), if_neg hs])
      have hc : ¬ (c = 40 ∨ c = 41 ∨ c = 59 ∨ c = 61 ∨ c = 43 ∨ c = 45 ∨ c = 42 ∨ c = 47 ∨ c = 60 ∨ c = 38 ∨ c = 124) := by simpa [signL] using hs
      have q1 : ((c : Int) == 40) = false := by simp; omega
      have q2 : ((c : Int) == 41) = false := by simp; omega
      have q3 : ((c : Int) == 59) = false := by simp; omega
      have q4 : ((c : Int) == 61) = false := by simp; omega
      have q5 : ((c : Int) == 43) = false := by simp; omega
      have q6 : ((c : Int) == 45) = false := by simp; omega
      have q7 : ((c : Int) == 42) = false := by simp; omega
      have q8 : ((c : Int) == 47) = false := by simp; omega
      have q9 : ((c : Int) == 60) = false := by simp; omega
      have q10 : ((c : Int) == 38) = false := by simp; omega
      have q11 : ((c : Int) == 124) = false := by simp; omega
      clear hs h3 h4 hc
      rcases hh with h | ⟨h, h'⟩ | h
      all_goals
        go_enter Try.func100, Try.ntmps100
        go_wp2
        go_ret
        exact ⟨by rw [HF.out]; rfl, rfl⟩

set_option maxHeartbeats 400000 in
theorem runEnd_any (s : ByteArray) (k cl : Nat) (w : World) (hs : s.size ≤ maxLen) (hk : k ≤ s.size) :
    Calls Try.prog 101 #[.string s, .int .i64 (k : Int), .int .i64 (cl : Int)] w fun e w' =>
      e = .returned (.int .i64 ((if cl = 1 ∨ cl = 2 then runTo s cl (s.size - k) k else k : Nat) : Int)) ∧ w = w' := by
  unfold maxLen at hs
  by_cases hc : cl = 1 ∨ cl = 2
  · rw [if_pos hc]
    have hq : ((cl : Int) != 1) = false ∨ (((cl : Int) != 1) = true ∧ ((cl : Int) != 2) = false) := by
      rcases hc with rfl | rfl
      · left; rfl
      · right; exact ⟨rfl, rfl⟩
    clear hc
    rcases hq with q1 | ⟨q1, q2⟩
    all_goals
      go_enter Try.func101, Try.ntmps101
      go_wp2
      go_loop [1] (fun i => ∃ j : Nat, k ≤ j ∧ j ≤ s.size ∧ i = .int .i64 j ∧ runTo s cl (s.size - k) k = runTo s cl (s.size - j) j) (fun i => s.size - (intOf i).toNat)
      case atStart => exact ⟨k, Nat.le_refl _, hk, rfl, rfl⟩
      case round =>
        obtain ⟨j, hj1, hj2, rfl, hj3⟩ := hrel
        have HJ := hide hj3
        clear hj3
        by_cases hlt : j < s.size
        · have eb := byt_eq s j hlt
          by_cases hcc : cls (byt s j) = cl
          · have hb : ((cls (byt s j) : Int) == (cl : Int)) = true := by rw [hcc]; simp
            have HC := hide hcc
            clear hcc
            go_wp2_with (go_at_call 100; refine (classOf_any _ _).mono ?_; rintro e w' ⟨rfl, rfl⟩)
            go_round
            case rel => exact ⟨j + 1, by omega, by omega, by go_num, by rw [HJ.out, runTo_step s cl j hlt HC.out]⟩
            case measure => simp [intOf]; omega
          · have hb : ((cls (byt s j) : Int) == (cl : Int)) = false := by rw [beq_eq_false_iff_ne]; omega
            go_wp2_with (go_at_call 100; refine (classOf_any _ _).mono ?_; rintro e w' ⟨rfl, rfl⟩)
            go_ret
            exact ⟨ret_intN (by rw [HJ.out, runTo_stop s cl _ j (by rintro ⟨_, h⟩; exact hcc h)]), rfl⟩
        · go_wp2
          go_ret
          exact ⟨ret_intN (by rw [HJ.out, runTo_stop s cl _ j (by omega)]), rfl⟩
  · rw [if_neg hc]
    have q1 : ((cl : Int) != 1) = true := by rw [bne_iff_ne]; omega
    have q2 : ((cl : Int) != 2) = true := by rw [bne_iff_ne]; omega
    clear hc
    go_enter Try.func101, Try.ntmps101
    go_wp2
    go_ret
    exact ⟨rfl, rfl⟩

set_option maxHeartbeats 1000000 in
theorem wordKind_any (t : ByteArray) (w : World) (ht : t.size ≤ maxLen) :
    Calls Try.prog 126 #[.string t] w fun e w' => e = .returned (.int .i64 (wordK t.data.toList : Nat)) ∧ w = w' := by
  by_cases hk : keptL.contains t.data.toList = true
  · have HF : Hid (wordK t.data.toList = 2) := hide (by unfold wordK; rw [if_pos hk])
    have hc : t.data.toList = kIn ∨ t.data.toList = kInt ∨ t.data.toList = kBool ∨ t.data.toList = kAt ∨ t.data.toList = kIf ∨ t.data.toList = kFby ∨ t.data.toList = kNot ∨ t.data.toList = kTrue ∨ t.data.toList = kFalse := by
      simpa [keptL] using hk
    clear hk
    rcases hc with h | h | h | h | h | h | h | h | h
    all_goals
      have et := str_yes h
      simp only [kIn, kInt, kBool, kAt, kIf, kFby, kNot, kTrue, kFalse] at et
      clear h
      go_enter Try.func126, Try.ntmps126
      go_wp2
      go_ret
      exact ⟨ret_intN (by rw [HF.out]; rfl), rfl⟩
  · have hn : ∀ l ∈ keptL, (t.toList == l) = false := fun l hl => str_no (by rintro rfl; exact hk (by simpa using hl))
    have n1 := hn kIn (by simp [keptL])
    have n2 := hn kInt (by simp [keptL])
    have n3 := hn kBool (by simp [keptL])
    have n4 := hn kAt (by simp [keptL])
    have n5 := hn kIf (by simp [keptL])
    have n6 := hn kFby (by simp [keptL])
    have n7 := hn kNot (by simp [keptL])
    have n8 := hn kTrue (by simp [keptL])
    have n9 := hn kFalse (by simp [keptL])
    simp only [kIn, kInt, kBool, kAt, kIf, kFby, kNot, kTrue, kFalse] at n1 n2 n3 n4 n5 n6 n7 n8 n9
    have HF : Hid (wordK t.data.toList = if 8 < t.size then 5 else 1) := hide (by unfold wordK; rw [if_neg hk, size_len])
    clear hn hk
    unfold maxLen at ht
    by_cases h8 : 8 < t.size
    all_goals
      go_enter Try.func126, Try.ntmps126
      go_wp2
      go_ret
      refine ⟨ret_intN ?_, rfl⟩
      rw [HF.out]
    · rw [if_pos h8]; rfl
    · rw [if_neg h8]; rfl

set_option maxHeartbeats 400000 in
theorem numberKind_any (t : ByteArray) (w : World) (ht : t.size ≤ maxLen) :
    Calls Try.prog 127 #[.string t] w fun e w' => e = .returned (.int .i64 (numK t.data.toList : Nat)) ∧ w = w' := by
  have HF : Hid (numK t.data.toList = if 18 < t.size then 5 else 3) := hide (by unfold numK; rw [size_len])
  unfold maxLen at ht
  by_cases h8 : 18 < t.size
  all_goals
    go_enter Try.func127, Try.ntmps127
    go_wp2
    go_ret
    refine ⟨ret_intN ?_, rfl⟩
    rw [HF.out]
  · rw [if_pos h8]; rfl
  · rw [if_neg h8]; rfl

set_option maxHeartbeats 400000 in
theorem kindOf_any (t : ByteArray) (cl : Nat) (w : World) (ht : t.size ≤ maxLen) (hcl : cl ≤ 4) :
    Calls Try.prog 102 #[.string t, .int .i64 (cl : Int)] w fun e w' => e = .returned (.int .i64 (kindB t cl : Nat)) ∧ w = w' := by
  have hc : cl = 0 ∨ cl = 1 ∨ cl = 2 ∨ cl = 3 ∨ cl = 4 := by omega
  clear hcl
  rcases hc with rfl | rfl | rfl | rfl | rfl
  all_goals
    go_enter Try.func102, Try.ntmps102
    go_wp2_with (first | (go_at_call 126; refine (wordKind_any _ _ ht).mono ?_; rintro e w' ⟨rfl, rfl⟩) | (go_at_call 127; refine (numberKind_any _ _ ht).mono ?_; rintro e w' ⟨rfl, rfl⟩))
    go_ret
    exact ⟨ret_intN (by simp [kindB, kindK]), rfl⟩

end Go.Proofs.Ytecegaflhdgfaaa
