import Derived.Deep.RegionHeld3
import Derived.Deep.AppendLies
import Derived.Deep.DrawnRows
import Derived.OwnWalk
import Derived.Test.Ytmndgoapkmhglabo00Base
namespace Go.Proofs.Ytmndgoapkmhglab
open Go.RowKit
set_option maxHeartbeats 1000000 in
theorem classOf_any (c : Nat) (w : World) :
    Calls Try.prog 105 #[.int .u8 (c : Int)] w fun e w' => e = .returned (.int .i64 (cls c : Nat)) ∧ w = w' := by
  have hiv : c = 32 ∨ c = 10 ∨ (97 ≤ c ∧ c ≤ 122) ∨ (48 ≤ c ∧ c ≤ 57) ∨ ((c ≠ 32 ∧ c ≠ 10) ∧ (c < 48 ∨ (57 < c ∧ c < 97) ∨ 122 < c)) := by omega
  rcases hiv with h | h | ⟨h, h'⟩ | ⟨h, h'⟩ | ⟨⟨h3, h4⟩, hh⟩
  · subst h
    go_enter Try.func105, Try.ntmps105
    go_wp2
    go_ret
    exact ⟨rfl, rfl⟩
  · subst h
    go_enter Try.func105, Try.ntmps105
    go_wp2
    go_ret
    exact ⟨rfl, rfl⟩
  · have HF : Hid (cls c = 1) := hide (by unfold cls; rw [if_neg (by omega), if_pos ⟨h, h'⟩])
    have k3 : ((c : Int) == 32) = false := by simp; omega
    have k4 : ((c : Int) == 10) = false := by simp; omega
    go_enter Try.func105, Try.ntmps105
    go_wp2
    go_ret
    exact ⟨by rw [HF.out]; rfl, rfl⟩
  · have HF : Hid (cls c = 2) := hide (by unfold cls; rw [if_neg (by omega), if_neg (by omega), if_pos ⟨h, h'⟩])
    have k3 : ((c : Int) == 32) = false := by simp; omega
    have k4 : ((c : Int) == 10) = false := by simp; omega
    go_enter Try.func105, Try.ntmps105
    go_wp2
    go_ret
    exact ⟨by rw [HF.out]; rfl, rfl⟩
  · have k3 : ((c : Int) == 32) = false := by simp; omega
    have k4 : ((c : Int) == 10) = false := by simp; omega
    by_cases hs : signL.contains c = true
    · have HF : Hid (cls c = 3) := hide (by unfold cls; rw [if_neg (by omega), if_neg (by omega), if_neg (by omega), if_pos hs])
      have hc : c = 40 ∨ c = 41 ∨ c = 59 ∨ c = 61 ∨ c = 43 ∨ c = 45 ∨ c = 42 ∨ c = 47 ∨ c = 60 ∨ c = 38 ∨ c = 124 := by simpa [signL] using hs
      clear hs h3 h4 hh k3 k4
      rcases hc with rfl | rfl | rfl | rfl | rfl | rfl | rfl | rfl | rfl | rfl | rfl
      all_goals
        go_enter Try.func105, Try.ntmps105
        go_wp2
        go_ret
        exact ⟨by rw [HF.out]; rfl, rfl⟩
    · have HF : Hid (cls c = 4) := hide (by unfold cls; rw [if_neg (by omega), if_neg (by omega), if_neg (by omega), if_neg hs])
      have hc : ¬ (c = 40 ∨ c = 41 ∨ c = 59 ∨ c = 61 ∨ c = 43 ∨ c = 45 ∨ c = 42 ∨ c = 47 ∨ c = 60 ∨ c = 38 ∨ c = 124) := by simpa [signL] using hs
      have q1 : ((c : Int) == 40) = false := by simp; omega
      have q2 : ((c : Int) == 41) = false := by simp; omega
      have q3 : ((c : Int) == 59) = false := by simp; omega
      have q4 : ((c : Int) == 61) = false := by simp; omega
      have q5 : ((c : Int) == 43) = false := by simp; omega
      have q6 : ((c : Int) == 45) = false := by simp; omega
      have q7 : ((c : Int) == 42) = false := by simp; omega
      have q8 : ((c : Int) == 47) = false := by simp; omega
      have q9 : ((c : Int) == 60) = false := by simp; omega
      have q10 : ((c : Int) == 38) = false := by simp; omega
      have q11 : ((c : Int) == 124) = false := by simp; omega
      clear hs h3 h4 hc
      rcases hh with h | ⟨h, h'⟩ | h
      all_goals
        go_enter Try.func105, Try.ntmps105
        go_wp2
        go_ret
        exact ⟨by rw [HF.out]; rfl, rfl⟩
set_option maxHeartbeats 400000 in
theorem runEnd_any (s : ByteArray) (k cl : Nat) (w : World) (hs : s.size ≤ maxLen) (hk : k ≤ s.size) :
    Calls Try.prog 106 #[.string s, .int .i64 (k : Int), .int .i64 (cl : Int)] w fun e w' =>
      e = .returned (.int .i64 ((if cl = 1 ∨ cl = 2 then runTo s cl (s.size - k) k else k : Nat) : Int)) ∧ w = w' := by
  unfold maxLen at hs
  by_cases hc : cl = 1 ∨ cl = 2
  · rw [if_pos hc]
    have hq : ((cl : Int) != 1) = false ∨ (((cl : Int) != 1) = true ∧ ((cl : Int) != 2) = false) := by
      rcases hc with rfl | rfl
      · left; rfl
      · right; exact ⟨rfl, rfl⟩
    clear hc
    rcases hq with q1 | ⟨q1, q2⟩
    all_goals
      go_enter Try.func106, Try.ntmps106
      go_wp2
      go_loop [1] (fun i => ∃ j : Nat, k ≤ j ∧ j ≤ s.size ∧ i = .int .i64 j ∧ runTo s cl (s.size - k) k = runTo s cl (s.size - j) j) (fun i => s.size - (intOf i).toNat)
      case atStart => exact ⟨k, Nat.le_refl _, hk, rfl, rfl⟩
      case round =>
        obtain ⟨j, hj1, hj2, rfl, hj3⟩ := hrel
        have HJ := hide hj3
        clear hj3
        by_cases hlt : j < s.size
        · have eb := byt_eq s j hlt
          by_cases hcc : cls (byt s j) = cl
          · have hb : ((cls (byt s j) : Int) == (cl : Int)) = true := by rw [hcc]; simp
            have HC := hide hcc
            clear hcc
            go_wp2_with (go_at_call 105; refine (classOf_any _ _).mono ?_; rintro e w' ⟨rfl, rfl⟩)
            go_round
            case rel => exact ⟨j + 1, by omega, by omega, by go_num, by rw [HJ.out, runTo_step s cl j hlt HC.out]⟩
            case measure => simp [intOf]; omega
          · have hb : ((cls (byt s j) : Int) == (cl : Int)) = false := by rw [beq_eq_false_iff_ne]; omega
            go_wp2_with (go_at_call 105; refine (classOf_any _ _).mono ?_; rintro e w' ⟨rfl, rfl⟩)
            go_ret
            exact ⟨ret_intN (by rw [HJ.out, runTo_stop s cl _ j (by rintro ⟨_, h⟩; exact hcc h)]), rfl⟩
        · go_wp2
          go_ret
          exact ⟨ret_intN (by rw [HJ.out, runTo_stop s cl _ j (by omega)]), rfl⟩
  · rw [if_neg hc]
    have q1 : ((cl : Int) != 1) = true := by rw [bne_iff_ne]; omega
    have q2 : ((cl : Int) != 2) = true := by rw [bne_iff_ne]; omega
    clear hc
    go_enter Try.func106, Try.ntmps106
    go_wp2
    go_ret
    exact ⟨rfl, rfl⟩
set_option maxHeartbeats 1000000 in
theorem wordKind_any (t : ByteArray) (w : World) (ht : t.size ≤ maxLen) :
    Calls Try.prog 125 #[.string t] w fun e w' => e = .returned (.int .i64 (wordK t.data.toList : Nat)) ∧ w = w' := by
  by_cases hk : keptL.contains t.data.toList = true
  · have HF : Hid (wordK t.data.toList = 2) := hide (by unfold wordK; rw [if_pos hk])
    have hc : t.data.toList = kIn ∨ t.data.toList = kInt ∨ t.data.toList = kBool ∨ t.data.toList = kAt ∨ t.data.toList = kIf ∨ t.data.toList = kFby ∨ t.data.toList = kNot ∨ t.data.toList = kTrue ∨ t.data.toList = kFalse := by
      simpa [keptL] using hk
    clear hk
    rcases hc with h | h | h | h | h | h | h | h | h
    all_goals
      have et := str_yes h
      simp only [kIn, kInt, kBool, kAt, kIf, kFby, kNot, kTrue, kFalse] at et
      clear h
      go_enter Try.func125, Try.ntmps125
      go_wp2
      go_ret
      exact ⟨ret_intN (by rw [HF.out]; rfl), rfl⟩
  · have hn : ∀ l ∈ keptL, (t.toList == l) = false := fun l hl => str_no (by rintro rfl; exact hk (by simpa using hl))
    have n1 := hn kIn (by simp [keptL])
    have n2 := hn kInt (by simp [keptL])
    have n3 := hn kBool (by simp [keptL])
    have n4 := hn kAt (by simp [keptL])
    have n5 := hn kIf (by simp [keptL])
    have n6 := hn kFby (by simp [keptL])
    have n7 := hn kNot (by simp [keptL])
    have n8 := hn kTrue (by simp [keptL])
    have n9 := hn kFalse (by simp [keptL])
    simp only [kIn, kInt, kBool, kAt, kIf, kFby, kNot, kTrue, kFalse] at n1 n2 n3 n4 n5 n6 n7 n8 n9
    have HF : Hid (wordK t.data.toList = if 8 < t.size then 5 else 1) := hide (by unfold wordK; rw [if_neg hk, size_len])
    clear hn hk
    unfold maxLen at ht
    by_cases h8 : 8 < t.size
    all_goals
      go_enter Try.func125, Try.ntmps125
      go_wp2
      go_ret
      refine ⟨ret_intN ?_, rfl⟩
      rw [HF.out]
    · rw [if_pos h8]; rfl
    · rw [if_neg h8]; rfl
set_option maxHeartbeats 400000 in
theorem numberKind_any (t : ByteArray) (w : World) (ht : t.size ≤ maxLen) :
    Calls Try.prog 126 #[.string t] w fun e w' => e = .returned (.int .i64 (numK t.data.toList : Nat)) ∧ w = w' := by
  have HF : Hid (numK t.data.toList = if 18 < t.size then 5 else 3) := hide (by unfold numK; rw [size_len])
  unfold maxLen at ht
  by_cases h8 : 18 < t.size
  all_goals
    go_enter Try.func126, Try.ntmps126
    go_wp2
    go_ret
    refine ⟨ret_intN ?_, rfl⟩
    rw [HF.out]
  · rw [if_pos h8]; rfl
  · rw [if_neg h8]; rfl
set_option maxHeartbeats 400000 in
theorem kindOf_any (t : ByteArray) (cl : Nat) (w : World) (ht : t.size ≤ maxLen) (hcl : cl ≤ 4) :
    Calls Try.prog 107 #[.string t, .int .i64 (cl : Int)] w fun e w' => e = .returned (.int .i64 (kindB t cl : Nat)) ∧ w = w' := by
  have hc : cl = 0 ∨ cl = 1 ∨ cl = 2 ∨ cl = 3 ∨ cl = 4 := by omega
  clear hcl
  rcases hc with rfl | rfl | rfl | rfl | rfl
  all_goals
    go_enter Try.func107, Try.ntmps107
    go_wp2_with (first | (go_at_call 125; refine (wordKind_any _ _ ht).mono ?_; rintro e w' ⟨rfl, rfl⟩) | (go_at_call 126; refine (numberKind_any _ _ ht).mono ?_; rintro e w' ⟨rfl, rfl⟩))
    go_ret
    exact ⟨ret_intN (by simp [kindB, kindK]), rfl⟩
end Go.Proofs.Ytmndgoapkmhglab
namespace Go.Proofs.Ytmndgoapkmhglab
open Go.RowKit
attribute [local go_sem ↓] Go.wp_at_zero Go.wp_at_succ
def Tk.cells (t : Tk) : List Value := [.int .i64 (t.kind : Int), .int .i64 (t.pos : Int), .string t.text]
def tkCells (l : List Tk) : List Value := l.flatMap Tk.cells
theorem tkCells_snoc (l : List Tk) (t : Tk) : tkCells (l ++ [t]) = tkCells l ++ t.cells := by simp [tkCells]
theorem Try.infoTok : (Try.prog.info? 150).map (fun i => (i.zero, i.size, i.bytes)) = some (some (.agg #[.int .i64 0, .int .i64 0, .string ByteArray.empty]), 3, 32) := by kernel_rfl
theorem ownBlock_ge {w : World} {base e size n : Nat} {v : Value} {xs : List Value} (h : w.ownsRow base e size v n xs) : ∀ k, v.ownBlock = some k → base ≤ k := by
  intro k hk
  rcases h.2 with ⟨rfl, _⟩ | ⟨g, cap, cur, rfl, hb, _⟩
  · simp [Value.ownBlock] at hk
  · simp [Value.ownBlock] at hk; omega
set_option maxHeartbeats 2000000 in
set_option maxRecDepth 100000 in
theorem tokens_any (s : ByteArray) (w : World) (hs : s.size ≤ 1500) :
    Calls Try.prog 78 #[.string s] w fun e w' => ∃ v, e = .returned v ∧ w'.ownsRow w.heap.size 150 3 v (toks s).length (tkCells (toks s)) ∧ Below w.heap.size w w' := by
  obtain ⟨i0, hi0, hz0, hz1, hz2⟩ := info_parts Try.infoTok
  go_enter Try.func78, Try.ntmps78
  go_wp2
  go_loopw [3, 4] (fun v i wr => ∃ (k : Nat) (l : List Tk), k ≤ s.size ∧ i = .int .i64 k ∧ l ++ toksFrom s (s.size - k) k = toksFrom s s.size 0 ∧ l.length ≤ k ∧
      wr.ownsRow w.heap.size 150 3 v l.length (tkCells l) ∧ Below w.heap.size w wr) (fun _ i _ => s.size - (intOf i).toNat)
  case atStart => exact ⟨0, [], by omega, rfl, by simp, by simp, World.ownsRow_nil _ _ _ _, Below.refl _ _⟩
  case round =>
    obtain ⟨k, l, hk, rfl, hl, hlen, hown, hbel⟩ := hrel
    have HL := hide hl
    clear hl
    by_cases hlt : k < s.size
    · have eb := byt_eq s k hlt
      have hm : s.size ≤ maxLen := by unfold maxLen; omega
      have hc4 := cls_le (byt s k)
      by_cases hb : cls (byt s k) = 0
      · have HB := hide hb
        have q0 : ((cls (byt s k) : Int) != 0) = false := by rw [hb]; rfl
        have qe : (if cls (byt s k) = 1 ∨ cls (byt s k) = 2 then runTo s (cls (byt s k)) (s.size - (k + 1)) (k + 1) else k + 1) = k + 1 := by rw [if_neg (by omega)]
        clear hb
        go_wp2_with (first | (go_at_call 105; refine (classOf_any _ _).mono ?_; rintro e w' ⟨rfl, rfl⟩) | (go_at_call 106; refine (runEnd_any s (k + 1) _ _ hm (by omega)).mono ?_; rintro e w' ⟨rfl, rfl⟩))
        go_roundw
        case rel => exact ⟨k + 1, l, by omega, by go_num, by rw [← toksFrom_blank s k hlt HB.out]; exact HL.out, by omega, hown, hbel⟩
        case measure => simp [intOf]; omega
      · have HB := hide hb
        have q0 : ((cls (byt s k) : Int) != 0) = true := by rw [bne_iff_ne]; omega
        obtain ⟨e, he⟩ : ∃ e, e = endOf s k := ⟨_, rfl⟩
        have qe : (if cls (byt s k) = 1 ∨ cls (byt s k) = 2 then runTo s (cls (byt s k)) (s.size - (k + 1)) (k + 1) else k + 1) = e := by rw [he]; rfl
        have he1 : k < e := by rw [he]; exact endOf_gt s k
        have he2 : e ≤ s.size := by rw [he]; exact endOf_le s k hlt
        have HE := hide he
        have i1 : (0 : Int) ≤ (k : Int) := by omega
        have i2 : (k : Int) ≤ (e : Int) := by omega
        have i3 : (e : Int) ≤ (s.size : Int) := by omega
        clear hb he
        go_wp2_with (first | (go_at_call 105; refine (classOf_any _ _).mono ?_; rintro e' w' ⟨rfl, rfl⟩) | (go_at_call 106; refine (runEnd_any s (k + 1) _ _ hm (by omega)).mono ?_; rintro e' w' ⟨rfl, rfl⟩))
        go_region_held3 (fun _ => True) (trivial)
          (first
           | (go_at_call 107; refine (kindOf_any _ _ _ (by simp; omega) hc4).mono ?_; rintro e' w' ⟨rfl, rfl⟩)
           | (refine step_append_lies _ (by rfl) _ _ _ (by rfl) w.heap.size 150 i0 _ 3 32 Try.underlying145 hi0 hz0 hz1 hz2 rfl (by omega) _ l.length (tkCells l) (by rfl) ((hown.alloc _).drew)
                ⟨wr.heap.size, 0, none⟩ 1 1 [.int .i64 ((kindB (s.extract k e) (cls (byt s k)) : Nat) : Int), .int .i64 (k : Int), .string (s.extract k e)] (by rfl) (by rfl)
                (World.news_of_block (cs := #[.int .i64 ((kindB (s.extract k e) (cls (byt s k)) : Nat) : Int), .int .i64 (k : Int), .string (s.extract k e)]) (t := 150) (fr := (0, 0)) (heap_alloc_new wr _)) (by simp [Value.oneCell'])
                (by omega) (by unfold maxLen; omega) (by omega) (by have := hbel.size; simp; omega) (wr.heap.size + 1) (by simp) ?_; intro gg cap w1 hown1 hgrow hat hlt1))
        go_wp2
        go_roundw
        case rel =>
          have e1 : e = endOf s k := HE.out
          refine ⟨e, l ++ [tokAt s k], he2, rfl, ?_, by simp; omega, ?_, ?_⟩
          · rw [List.append_assoc, e1]
            have := toksFrom_tok s k hlt HB.out
            rw [List.singleton_append, ← this]
            exact HL.out
          · rw [tkCells_snoc, List.length_append]
            simp only [Tk.cells, tokAt, ← e1]
            exact hown1
          · exact ((hbel.alloc hbel.size _).drew).grown hgrow (by have := hbel.size; simp; omega) (fun j hj => ownBlock_ge hown j hj)
        case measure => simp [intOf]; omega
    · have ek : k = s.size := by omega
      have HK := hide ek
      clear ek
      go_wp2_with (at_builtin; refine wpList_append_lies _ rfl _ _ _ rfl w.heap.size 150 i0 _ 3 32 Try.underlying145 hi0 hz0 hz1 hz2 rfl (by omega) _ l.length (tkCells l) rfl (hown.alloc _) ⟨wr.heap.size, 0, none⟩ 1 1 [.int .i64 0, .int .i64 (s.size : Int), .string ByteArray.empty] rfl rfl (World.news_of_block (cs := #[.int .i64 0, .int .i64 (s.size : Int), .string ByteArray.empty]) (t := 150) (fr := (0, 0)) (heap_alloc_new wr _)) (by simp [Value.oneCell']) (by omega) (by unfold maxLen; omega) (by omega) (by have := hbel.size; simp; omega) (wr.heap.size + 1) (by simp) ?_; intro gg cap w1 hown1 hgrow hat hlt1)
      go_ret
      have hE : toks s = l ++ [⟨0, s.size, ByteArray.empty⟩] := by
        have h1 := HL.out
        rw [toksFrom_end s _ k (by omega), List.append_nil] at h1
        rw [toks, ← h1]
      refine ⟨_, rfl, ?_, ?_⟩
      · rw [hE, tkCells_snoc, List.length_append]
        exact hown1
      · exact (hbel.alloc hbel.size _).grown hgrow (by have := hbel.size; simp; omega) (fun j hj => ownBlock_ge hown j hj)
end Go.Proofs.Ytmndgoapkmhglab
