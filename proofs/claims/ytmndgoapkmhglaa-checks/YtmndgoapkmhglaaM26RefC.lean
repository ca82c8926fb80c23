import Derived.Test.YtmndgoapkmhglaaM02ParA
import Derived.Test.YtmndgoapkmhglaaM03ParD
import Derived.Test.YtmndgoapkmhglaaM13RStand
namespace Go.Proofs.Ytmndgoapkmhglaa
open Go.RowKit


def rcl (c : Nat) : Nat := if c = 0 then 32 else if c = 1 then 97 else if c = 2 then 48 else if c = 3 then 115 else 120
def rcls (c : Nat) : Nat := rcl (cls c)

def signB : ByteArray := { data := #[40, 41, 59, 61, 43, 45, 42, 47, 60, 38, 124] }
theorem signB_at : ∀ k : Fin 11, (signB[k.1]'(k.2)).toNat = signL.getD k.1 0 := by decide
theorem sign_hit {k c : Nat} (h : k < 11) (h1 : (((signB[k]'h).toNat : Int) == (c : Int)) = true) : signL.contains c = true := by
  have e := signB_at ⟨k, h⟩
  simp only [beq_iff_eq, Int.natCast_inj] at h1
  simp only at e
  rw [e] at h1
  subst h1
  have : ∀ k : Fin 11, signL.contains (signL.getD k.1 0) = true := by decide
  exact this ⟨k, h⟩
theorem sign_miss {k c : Nat} (h : k < 11) (h1 : (((signB[k]'h).toNat : Int) == (c : Int)) = false) : signL.getD k 0 ≠ c := by
  have e := signB_at ⟨k, h⟩
  simp only at e
  rw [← e]
  intro h2
  rw [h2] at h1
  simp at h1
theorem sign_none {c : Nat} (h : ∀ j, j < 11 → signL.getD j 0 ≠ c) : signL.contains c = false := by
  rw [List.contains_eq_mem]
  simp only [decide_eq_false_iff_not]
  intro hm
  obtain ⟨j, hj, e⟩ := List.getElem_of_mem hm
  refine h j hj ?_
  rw [List.getD_eq_getElem?_getD, List.getElem?_eq_getElem hj]
  exact e

set_option maxHeartbeats 400000 in
theorem refclass_any (c : Nat) (w : World) :
    Calls Try.prog 108 #[.int .u8 (c : Int)] w fun e w' => e = .returned (.int .u8 (rcls c : Nat)) ∧ w = w' := by
  by_cases h1 : 97 ≤ c ∧ c ≤ 122
  · have HF : Hid (rcls c = 97) := hide (by rw [rcls, cls_1 h1.1 h1.2]; rfl)
    obtain ⟨h1, h2⟩ := h1
    go_enter Try.func108, Try.ntmps108
    go_wp2
    go_ret
    exact ⟨by rw [HF.out]; rfl, rfl⟩
  by_cases h2 : 48 ≤ c ∧ c ≤ 57
  · have HF : Hid (rcls c = 48) := hide (by rw [rcls, cls_2 h2.1 h2.2]; rfl)
    obtain ⟨h2, h3⟩ := h2
    clear h1
    go_enter Try.func108, Try.ntmps108
    go_wp2
    go_ret
    exact ⟨by rw [HF.out]; rfl, rfl⟩
  by_cases h3 : c = 32
  · subst h3
    go_enter Try.func108, Try.ntmps108
    go_wp2
    go_ret
    exact ⟨rfl, rfl⟩
  by_cases h4 : c = 10
  · subst h4
    go_enter Try.func108, Try.ntmps108
    go_wp2
    go_ret
    exact ⟨rfl, rfl⟩
  have HF : Hid (rcls c = if signL.contains c then 115 else 120) := hide (by rw [rcls, cls_34 h1 h2 h3 h4]; split <;> rfl)
  have k3 : ((c : Int) == 32) = false := by simp; omega
  have k4 : ((c : Int) == 10) = false := by simp; omega
  have hiv : c < 48 ∨ (57 < c ∧ c < 97) ∨ 122 < c := by omega
  clear h3 h4 h1 h2
  rcases hiv with h | ⟨h, h'⟩ | h
  all_goals
    go_enter Try.func108, Try.ntmps108
    go_wp2
    go_loop [4] (fun i => ∃ k : Nat, k ≤ 11 ∧ i = .int .i64 k ∧ ∀ j, j < k → signL.getD j 0 ≠ c) (fun i => 11 - (intOf i).toNat)
    case atStart => exact ⟨0, by omega, rfl, by intro j hj; omega⟩
    case round =>
      obtain ⟨k, hk, rfl, hne⟩ := hrel
      have HN := hide hne
      clear hne
      by_cases hlt : k < 11
      · go_wp2
        · go_ret
          exact ⟨ret_intN (by rw [HF.out, if_pos (sign_hit hlt ‹_›)]; rfl), rfl⟩
        · refine ⟨⟨k + 1, by omega, by go_num, fun j hj => ?_⟩, by simp [intOf]; omega⟩
          by_cases e : j = k
          · subst e; exact sign_miss hlt ‹_›
          · exact HN.out j (by omega)
      · have ek : k = 11 := by omega
        subst ek
        go_wp2
        go_ret
        exact ⟨ret_intN (by rw [HF.out, if_neg (by rw [sign_none HN.out]; simp)]; rfl), rfl⟩

end Go.Proofs.Ytmndgoapkmhglaa

namespace Go.Proofs.Ytmndgoapkmhglaa
open Go.RowKit
attribute [local go_sem ↓] Go.wp_at_zero Go.wp_at_succ

set_option maxHeartbeats 1000000 in
theorem rkept_any (t : ByteArray) (w : World) :
    Calls Try.prog 137 #[.string t] w fun e w' => e = .returned (.bool (keptL.contains t.data.toList)) ∧ w = w' := by
  by_cases hk : keptL.contains t.data.toList = true
  · have HF := hide hk
    have hc : t.data.toList = kIn ∨ t.data.toList = kInt ∨ t.data.toList = kBool ∨ t.data.toList = kAt ∨ t.data.toList = kIf ∨ t.data.toList = kFby ∨ t.data.toList = kNot ∨ t.data.toList = kTrue ∨ t.data.toList = kFalse := by
      simpa [keptL] using hk
    clear hk
    rcases hc with h | h | h | h | h | h | h | h | h
    all_goals
      have et := str_yes h
      simp only [kIn, kInt, kBool, kAt, kIf, kFby, kNot, kTrue, kFalse] at et
      clear h
      go_enter Try.func137, Try.ntmps137
      go_wp2
      go_ret
      exact ⟨by rw [HF.out]; rfl, rfl⟩
  · have hn : ∀ l ∈ keptL, (t.toList == l) = false := fun l hl => str_no (by rintro rfl; exact hk (by simpa using hl))
    have HF : Hid (keptL.contains t.data.toList = false) := hide (by simpa using hk)
    have n1 := hn kIn (by simp [keptL])
    have n2 := hn kInt (by simp [keptL])
    have n3 := hn kBool (by simp [keptL])
    have n4 := hn kAt (by simp [keptL])
    have n5 := hn kIf (by simp [keptL])
    have n6 := hn kFby (by simp [keptL])
    have n7 := hn kNot (by simp [keptL])
    have n8 := hn kTrue (by simp [keptL])
    have n9 := hn kFalse (by simp [keptL])
    simp only [kIn, kInt, kBool, kAt, kIf, kFby, kNot, kTrue, kFalse] at n1 n2 n3 n4 n5 n6 n7 n8 n9
    clear hn hk
    go_enter Try.func137, Try.ntmps137
    go_wp2
    go_ret
    exact ⟨by rw [HF.out]; rfl, rfl⟩

theorem rcl_inj {a b : Nat} (ha : a ≤ 4) (hb : b ≤ 4) : ((rcl a : Int) == (rcl b : Int)) = (a == b) := by
  have h1 : a = 0 ∨ a = 1 ∨ a = 2 ∨ a = 3 ∨ a = 4 := by omega
  have h2 : b = 0 ∨ b = 1 ∨ b = 2 ∨ b = 3 ∨ b = 4 := by omega
  rcases h1 with rfl | rfl | rfl | rfl | rfl <;> rcases h2 with rfl | rfl | rfl | rfl | rfl <;> rfl

abbrev RTk.val (t : RTk) : Value := .agg #[.int .u8 (t.c : Int), .string t.word, .int .i64 (t.pos : Int), .int .i64 (t.n : Int)]

/-- what the number's own loop has reckoned. -/
def valTo (s : ByteArray) (k j : Nat) : Nat := valN (s.extract k (endOf s k)).data.toList j

end Go.Proofs.Ytmndgoapkmhglaa

namespace Go.Proofs.Ytmndgoapkmhglaa
open Go.RowKit
attribute [local go_sem ↓] Go.wp_at_zero Go.wp_at_succ

theorem rtok_eta (t : RTk) (c : Nat) (wd : ByteArray) (p n : Nat) (h : t = ⟨c, wd, p, n⟩) : t.val = .agg #[.int .u8 (c : Int), .string wd, .int .i64 (p : Int), .int .i64 (n : Int)] := by rw [h]

theorem kind_word {t : ByteArray} (h : kindB t 1 = 2) : keptL.contains t.data.toList = true := by
  unfold kindB kindK wordK at h
  rw [if_pos rfl] at h
  split at h
  · assumption
  split at h <;> cases h

theorem extract_size (s : ByteArray) (a b : Nat) (hb : b ≤ s.size) : (s.extract a b).size = b - a := by
  rw [ByteArray.size_extract]; omega

theorem byt_ext (s : ByteArray) (a b j : Nat) (hb : b ≤ s.size) (hj : a + j < b) (h : j < (s.extract a b).data.toList.length) : ((s.extract a b).data.toList[j]'h).toNat = byt s (a + j) := by
  unfold byt
  have : (s.extract a b).data.toList[j]'h = s.data.toList[a + j]'(by rw [size_len]; omega) := by simp
  rw [this]
  have hlt : a + j < s.data.toList.length := by rw [size_len]; omega
  rw [List.getD_eq_getElem?_getD, List.getElem?_eq_getElem hlt]
  rfl

theorem rtok_num (s : ByteArray) (k : Nat) (h : cls (byt s k) = 2) :
    (18 < (s.extract k (endOf s k)).size → (rtok (tokAt s k)).val = .agg #[.int .u8 120, .string ⟨#[]⟩, .int .i64 (k : Int), .int .i64 0]) ∧
    (¬ 18 < (s.extract k (endOf s k)).size → (rtok (tokAt s k)).val = .agg #[.int .u8 110, .string ⟨#[]⟩, .int .i64 (k : Int), .int .i64 (valOf (s.extract k (endOf s k)).data.toList : Nat)]) := by
  refine ⟨fun h2 => ?_, fun h2 => ?_⟩
  · rw [show tokAt s k = ⟨5, k, s.extract k (endOf s k)⟩ from by unfold tokAt kindB kindK numK; rw [h, if_neg (by decide), if_pos rfl, if_pos (by rw [size_len]; exact h2)]]; rfl
  · rw [show tokAt s k = ⟨3, k, s.extract k (endOf s k)⟩ from by unfold tokAt kindB kindK numK; rw [h, if_neg (by decide), if_pos rfl, if_neg (by rw [size_len]; exact h2)]]; rfl

theorem num_dig (s : ByteArray) (k : Nat) (hk : k < s.size) (h : cls (byt s k) = 2) : ∀ c ∈ (s.extract k (endOf s k)).data.toList, 48 ≤ c.toNat ∧ c.toNat ≤ 57 := by
  intro c hc
  obtain ⟨j, hj, rfl⟩ := List.getElem_of_mem hc
  have hle := endOf_le s k hk
  have hsz : (s.extract k (endOf s k)).data.toList.length = endOf s k - k := by rw [size_len]; exact extract_size s k _ hle
  rw [byt_ext s k (endOf s k) j hle (by omega) hj]
  apply cls_two
  by_cases e : j = 0
  · subst e; exact h
  · have he : endOf s k = runTo s 2 (s.size - (k + 1)) (k + 1) := by unfold endOf; rw [if_pos (.inr h), h]
    exact (runTo_all s 2 (s.size - (k + 1)) (k + 1) (k + j) (by omega) (by omega)).1

theorem rtok_word (s : ByteArray) (k : Nat) (h : cls (byt s k) = 1) :
    (keptL.contains (s.extract k (endOf s k)).data.toList = true → (rtok (tokAt s k)).val = .agg #[.int .u8 107, .string (s.extract k (endOf s k)), .int .i64 (k : Int), .int .i64 0]) ∧
    (keptL.contains (s.extract k (endOf s k)).data.toList = false → 8 < (s.extract k (endOf s k)).size → (rtok (tokAt s k)).val = .agg #[.int .u8 120, .string ⟨#[]⟩, .int .i64 (k : Int), .int .i64 0]) ∧
    (keptL.contains (s.extract k (endOf s k)).data.toList = false → ¬ 8 < (s.extract k (endOf s k)).size → (rtok (tokAt s k)).val = .agg #[.int .u8 97, .string (s.extract k (endOf s k)), .int .i64 (k : Int), .int .i64 0]) := by
  refine ⟨fun h1 => ?_, fun h1 h2 => ?_, fun h1 h2 => ?_⟩
  · rw [show tokAt s k = ⟨2, k, s.extract k (endOf s k)⟩ from by unfold tokAt kindB kindK wordK; rw [h, if_pos rfl, if_pos h1]]; rfl
  · rw [show tokAt s k = ⟨5, k, s.extract k (endOf s k)⟩ from by unfold tokAt kindB kindK wordK; rw [h, if_pos rfl, if_neg (by rw [h1]; simp), if_pos (by rw [size_len]; exact h2)]]; rfl
  · rw [show tokAt s k = ⟨1, k, s.extract k (endOf s k)⟩ from by unfold tokAt kindB kindK wordK; rw [h, if_pos rfl, if_neg (by rw [h1]; simp), if_neg (by rw [size_len]; exact h2)]]; rfl

set_option maxHeartbeats 2000000 in
set_option maxRecDepth 100000 in
theorem rtoken_any (s : ByteArray) (k : Nat) (w : World) (hs : s.size ≤ 1500) (hk : k < s.size) (hc : cls (byt s k) ≠ 0) :
    Calls Try.prog 109 #[.string s, .int .i64 (k : Int)] w fun e w' => e = .returned (.tuple #[(rtok (tokAt s k)).val, .int .i64 (endOf s k : Nat)]) ∧ Below w.heap.size w w' := by
  have eb := byt_eq s k hk
  have hle := endOf_le s k hk
  have hgt := endOf_gt s k
  have h4 := cls_le (byt s k)
  have i1 : (0 : Int) ≤ (k : Int) := by omega
  have i2 : (k : Int) < (s.size : Int) := by omega
  have hcc : cls (byt s k) = 3 ∨ cls (byt s k) = 4 ∨ cls (byt s k) = 1 ∨ cls (byt s k) = 2 := by omega
  rcases hcc with h | h | h | h
  · have he : endOf s k = k + 1 := by unfold endOf; rw [if_neg (by omega)]
    have HF : Hid ((rtok (tokAt s k)).val = .agg #[.int .u8 115, .string (s.extract k (k + 1)), .int .i64 (k : Int), .int .i64 0] ∧ endOf s k = k + 1) := hide ⟨by rw [show tokAt s k = ⟨4, k, s.extract k (k + 1)⟩ from by unfold tokAt kindB kindK; rw [h, he]; rfl]; rfl, he⟩
    have hr : rcls (byt s k) = 115 := by unfold rcls; rw [h]; rfl
    clear h hc h4 hle hgt he
    go_enter Try.func109, Try.ntmps109
    go_wp2_with (go_at_call 108; refine (refclass_any _ _).mono ?_; rintro e w' ⟨rfl, rfl⟩)
    refine bodyPost_ret (v := .tuple #[.agg #[.int .u8 115, .string (s.extract k (k + 1)), .int .i64 (k : Int), .int .i64 0], .int .i64 ((k : Int) + 1)]) (by simp [results, Try.results109, go_sem]) rfl ?_
    exact ⟨by rw [HF.out.1, HF.out.2]; rfl, (Below.refl _ _).alloc (Nat.le_refl _) _⟩
  · have he : endOf s k = k + 1 := by unfold endOf; rw [if_neg (by omega)]
    have HF : Hid ((rtok (tokAt s k)).val = .agg #[.int .u8 120, .string ⟨#[]⟩, .int .i64 (k : Int), .int .i64 0] ∧ endOf s k = k + 1) := hide ⟨by rw [show tokAt s k = ⟨5, k, s.extract k (k + 1)⟩ from by unfold tokAt kindB kindK; rw [h, he]; rfl]; rfl, he⟩
    have hr : rcls (byt s k) = 120 := by unfold rcls; rw [h]; rfl
    clear h hc h4 hle hgt he
    go_enter Try.func109, Try.ntmps109
    go_wp2_with (go_at_call 108; refine (refclass_any _ _).mono ?_; rintro e w' ⟨rfl, rfl⟩)
    refine bodyPost_ret (v := .tuple #[.agg #[.int .u8 120, .string ⟨#[]⟩, .int .i64 (k : Int), .int .i64 0], .int .i64 ((k : Int) + 1)]) (by simp [results, Try.results109, go_sem]) rfl ?_
    exact ⟨by rw [HF.out.1, HF.out.2]; rfl, (Below.refl _ _).alloc (Nat.le_refl _) _⟩
  · have HE : Hid (endOf s k = runTo s 1 (s.size - (k + 1)) (k + 1)) := hide (by unfold endOf; rw [if_pos (.inl h), h])
    have HF := hide (rtok_word s k h)
    have hr : rcls (byt s k) = 97 := by unfold rcls; rw [h]; rfl
    clear h hc h4 hle hgt
    go_enter Try.func109, Try.ntmps109
    go_wp2_with (go_at_call 108; refine (refclass_any _ _).mono ?_; rintro e w' ⟨rfl, rfl⟩)
    go_loop [7] (fun i => ∃ j : Nat, k + 1 ≤ j ∧ j ≤ s.size ∧ i = .int .i64 j ∧ endOf s k = runTo s 1 (s.size - j) j) (fun i => s.size - (intOf i).toNat)
    case atStart => exact ⟨k + 1, Nat.le_refl _, hk, by go_num, HE.out⟩
    case round =>
      obtain ⟨j, hj1, hj2, rfl, hj3⟩ := hrel
      have HJ := hide hj3
      clear hj3
      by_cases hlt : j < s.size
      · have ebj := byt_eq s j hlt
        have h4j := cls_le (byt s j)
        have i3 : (0 : Int) ≤ (j : Int) := by omega
        have i4 : (j : Int) < (s.size : Int) := by omega
        by_cases hcj : cls (byt s j) = 1
        · have hrj : rcls (byt s j) = 97 := by unfold rcls; rw [hcj]; rfl
          have HCJ := hide hcj
          clear hcj h4j
          go_wp2_with (go_at_call 108; refine (refclass_any _ _).mono ?_; rintro e w' ⟨rfl, rfl⟩)
          go_round
          case rel => exact ⟨j + 1, by omega, by omega, by go_num, by rw [HJ.out, runTo_step s 1 j hlt HCJ.out]⟩
          case measure => simp [intOf]; omega
        · have hrj : ((rcls (byt s j) : Int) == 97) = false := by
            have := rcl_inj h4j (b := 1) (by omega)
            rw [show ((rcl 1 : Nat) : Int) = 97 from rfl] at this
            unfold rcls; rw [this]; simpa using hcj
          have he : endOf s k = j := by rw [HJ.out]; exact runTo_stop s 1 _ j (fun h => hcj h.2)
          clear hcj h4j
          have HEJ := hide he
          rw [he] at HF
          have i5 : (k : Int) ≤ (j : Int) := by omega
          have i6 : (j : Int) ≤ (s.size : Int) := by omega
          have hsz : (s.extract k j).size = j - k := extract_size s k j hj2
          have HSZ := hide hsz
          clear he hsz
          have i7 : (j : Int) - (k : Int) = ((j - k : Nat) : Int) := by omega
          by_cases hkp : keptL.contains (s.extract k j).data.toList = true
          · have HV := HF.out.1 hkp
            have HVH := hide HV
            clear HV
            go_wp2_with fail
            refine (refclass_any _ _).mono ?_
            rintro e w' ⟨rfl, rfl⟩
            go_wp2_with fail
            refine (rkept_any _ _).mono ?_
            rintro e w' ⟨rfl, rfl⟩
            rw [hkp]
            clear hkp
            go_wp2_with fail
            refine bodyPost_ret (v := .tuple #[.agg #[.int .u8 107, .string (s.extract k j), .int .i64 (k : Int), .int .i64 0], .int .i64 (j : Int)]) (by simp [results, Try.results109, go_sem]) rfl ?_
            exact ⟨by rw [HVH.out, HEJ.out], (Below.refl _ _).alloc (Nat.le_refl _) _⟩
          · have hkp' : keptL.contains (s.extract k j).data.toList = false := by simpa using hkp
            by_cases h8 : 8 < j - k
            · have HV := hide (HF.out.2.1 hkp' (by rw [HSZ.out]; exact h8))
              have i8 : (8 : Int) < ((s.extract k j).size : Int) := by rw [HSZ.out]; omega
              go_wp2_with fail
              refine (refclass_any _ _).mono ?_
              rintro e w' ⟨rfl, rfl⟩
              go_wp2_with fail
              refine (rkept_any _ _).mono ?_
              rintro e w' ⟨rfl, rfl⟩
              rw [hkp']
              clear hkp hkp'
              go_wp2_with fail
              refine bodyPost_ret (v := .tuple #[.agg #[.int .u8 120, .string ⟨#[]⟩, .int .i64 (k : Int), .int .i64 0], .int .i64 (j : Int)]) (by simp [results, Try.results109, go_sem]) rfl ?_
              exact ⟨by rw [HV.out, HEJ.out], (Below.refl _ _).alloc (Nat.le_refl _) _⟩
            · have HV := hide (HF.out.2.2 hkp' (by rw [HSZ.out]; exact h8))
              have i8 : ¬ (8 : Int) < ((s.extract k j).size : Int) := by rw [HSZ.out]; omega
              go_wp2_with fail
              refine (refclass_any _ _).mono ?_
              rintro e w' ⟨rfl, rfl⟩
              go_wp2_with fail
              refine (rkept_any _ _).mono ?_
              rintro e w' ⟨rfl, rfl⟩
              rw [hkp']
              clear hkp hkp'
              go_wp2_with fail
              refine bodyPost_ret (v := .tuple #[.agg #[.int .u8 97, .string (s.extract k j), .int .i64 (k : Int), .int .i64 0], .int .i64 (j : Int)]) (by simp [results, Try.results109, go_sem]) rfl ?_
              exact ⟨by rw [HV.out, HEJ.out], (Below.refl _ _).alloc (Nat.le_refl _) _⟩
      · have he : endOf s k = j := by rw [HJ.out]; exact runTo_stop s 1 _ j (by omega)
        have HEJ := hide he
        rw [he] at HF
        have i5 : (k : Int) ≤ (j : Int) := by omega
        have i6 : (j : Int) ≤ (s.size : Int) := by omega
        have hsz : (s.extract k j).size = j - k := extract_size s k j hj2
        have HSZ := hide hsz
        clear he hsz
        have i7 : (j : Int) - (k : Int) = ((j - k : Nat) : Int) := by omega
        by_cases hkp : keptL.contains (s.extract k j).data.toList = true
        · have HV := HF.out.1 hkp
          have HVH := hide HV
          clear HV
          go_wp2_with fail
          refine (rkept_any _ _).mono ?_
          rintro e w' ⟨rfl, rfl⟩
          rw [hkp]
          clear hkp
          go_wp2_with fail
          refine bodyPost_ret (v := .tuple #[.agg #[.int .u8 107, .string (s.extract k j), .int .i64 (k : Int), .int .i64 0], .int .i64 (j : Int)]) (by simp [results, Try.results109, go_sem]) rfl ?_
          exact ⟨by rw [HVH.out, HEJ.out], (Below.refl _ _).alloc (Nat.le_refl _) _⟩
        · have hkp' : keptL.contains (s.extract k j).data.toList = false := by simpa using hkp
          by_cases h8 : 8 < j - k
          · have HV := hide (HF.out.2.1 hkp' (by rw [HSZ.out]; exact h8))
            have i8 : (8 : Int) < ((s.extract k j).size : Int) := by rw [HSZ.out]; omega
            go_wp2_with fail
            refine (rkept_any _ _).mono ?_
            rintro e w' ⟨rfl, rfl⟩
            rw [hkp']
            clear hkp hkp'
            go_wp2_with fail
            refine bodyPost_ret (v := .tuple #[.agg #[.int .u8 120, .string ⟨#[]⟩, .int .i64 (k : Int), .int .i64 0], .int .i64 (j : Int)]) (by simp [results, Try.results109, go_sem]) rfl ?_
            exact ⟨by rw [HV.out, HEJ.out], (Below.refl _ _).alloc (Nat.le_refl _) _⟩
          · have HV := hide (HF.out.2.2 hkp' (by rw [HSZ.out]; exact h8))
            have i8 : ¬ (8 : Int) < ((s.extract k j).size : Int) := by rw [HSZ.out]; omega
            go_wp2_with fail
            refine (rkept_any _ _).mono ?_
            rintro e w' ⟨rfl, rfl⟩
            rw [hkp']
            clear hkp hkp'
            go_wp2_with fail
            refine bodyPost_ret (v := .tuple #[.agg #[.int .u8 97, .string (s.extract k j), .int .i64 (k : Int), .int .i64 0], .int .i64 (j : Int)]) (by simp [results, Try.results109, go_sem]) rfl ?_
            exact ⟨by rw [HV.out, HEJ.out], (Below.refl _ _).alloc (Nat.le_refl _) _⟩
  · have HE : Hid (endOf s k = runTo s 2 (s.size - (k + 1)) (k + 1)) := hide (by unfold endOf; rw [if_pos (.inr h), h])
    have HF := hide (rtok_num s k h)
    have HDG := hide (num_dig s k hk h)
    have hr : rcls (byt s k) = 48 := by unfold rcls; rw [h]; rfl
    clear h hc h4 hle hgt
    go_enter Try.func109, Try.ntmps109
    go_wp2_with (go_at_call 108; refine (refclass_any _ _).mono ?_; rintro e w' ⟨rfl, rfl⟩)
    go_loop [7] (fun i => ∃ j : Nat, k + 1 ≤ j ∧ j ≤ s.size ∧ i = .int .i64 j ∧ endOf s k = runTo s 2 (s.size - j) j) (fun i => s.size - (intOf i).toNat)
    case atStart => exact ⟨k + 1, Nat.le_refl _, hk, by go_num, HE.out⟩
    case round =>
      obtain ⟨j, hj1, hj2, rfl, hj3⟩ := hrel
      have HJ := hide hj3
      clear hj3
      by_cases hlt : j < s.size
      · have ebj := byt_eq s j hlt
        have h4j := cls_le (byt s j)
        have i3 : (0 : Int) ≤ (j : Int) := by omega
        have i4 : (j : Int) < (s.size : Int) := by omega
        by_cases hcj : cls (byt s j) = 2
        · have hrj : rcls (byt s j) = 48 := by unfold rcls; rw [hcj]; rfl
          have HCJ := hide hcj
          clear hcj h4j
          go_wp2_with (go_at_call 108; refine (refclass_any _ _).mono ?_; rintro e w' ⟨rfl, rfl⟩)
          go_round
          case rel => exact ⟨j + 1, by omega, by omega, by go_num, by rw [HJ.out, runTo_step s 2 j hlt HCJ.out]⟩
          case measure => simp [intOf]; omega
        · have hrj : ((rcls (byt s j) : Int) == 48) = false := by
            have := rcl_inj h4j (b := 2) (by omega)
            rw [show ((rcl 2 : Nat) : Int) = 48 from rfl] at this
            unfold rcls; rw [this]; simpa using hcj
          have he : endOf s k = j := by rw [HJ.out]; exact runTo_stop s 2 _ j (fun h => hcj h.2)
          clear hcj h4j
          have HEJ := hide he
          rw [he] at HF HDG
          have i5 : (k : Int) ≤ (j : Int) := by omega
          have i6 : (j : Int) ≤ (s.size : Int) := by omega
          have hsz : (s.extract k j).size = j - k := extract_size s k j hj2
          have HSZ := hide hsz
          clear he hsz
          by_cases h18 : 18 < j - k
          · have HV := hide (HF.out.1 (by rw [HSZ.out]; exact h18))
            have i8 : (18 : Int) < (j : Int) - (k : Int) := by omega
            go_wp2_with fail
            refine (refclass_any _ _).mono ?_
            rintro e w' ⟨rfl, rfl⟩
            go_wp2_with fail
            refine bodyPost_ret (v := .tuple #[.agg #[.int .u8 120, .string ⟨#[]⟩, .int .i64 (k : Int), .int .i64 0], .int .i64 (j : Int)]) (by simp [results, Try.results109, go_sem]) rfl ?_
            exact ⟨by rw [HV.out, HEJ.out], (Below.refl _ _).alloc (Nat.le_refl _) _⟩
          · have HV := hide (HF.out.2 (by rw [HSZ.out]; exact h18))
            have i8 : ¬ (18 : Int) < (j : Int) - (k : Int) := by omega
            go_wp2_with fail
            refine (refclass_any _ _).mono ?_
            rintro e w' ⟨rfl, rfl⟩
            go_wp2_with fail
            go_loop [10, 11] (fun v i => ∃ m : Nat, m ≤ j - k ∧ i = .int .i64 ((k : Int) + (m : Int)) ∧ v = .int .i64 (valN (s.extract k j).data.toList m : Nat)) (fun _ i => j - (intOf i).toNat)
            case atStart => exact ⟨0, by omega, by simp, rfl⟩
            case round =>
              obtain ⟨m, hm, rfl, rfl⟩ := hrel
              by_cases hml : m < j - k
              · have hl : m < (s.extract k j).data.toList.length := by rw [size_len, HSZ.out]; exact hml
                have hb17 := valN_17 (s.extract k j).data.toList HDG.out m (by omega) (by omega)
                have hdig := HDG.out _ (List.getElem_mem (h := hl))
                have hbe := byt_ext s k j m hj2 (by omega) hl
                have HVS : Hid (valN (s.extract k j).data.toList (m + 1) = valN (s.extract k j).data.toList m * 10 + (byt s (k + m) - 48)) := hide (by rw [valN_succ _ m hl, hbe])
                rw [hbe] at hdig
                obtain ⟨hd1, hd2⟩ := hdig
                have hkm : k + m < s.size := by omega
                have ekm : (k : Int) + (m : Int) = ((k + m : Nat) : Int) := by omega
                clear hbe
                generalize valN (s.extract k j).data.toList m = V at *
                obtain ⟨x, hx⟩ : ∃ x, x = k + m := ⟨_, rfl⟩
                have i9 : (x : Int) < (j : Int) := by omega
                rw [ekm]
                rw [← hx] at hd1 hd2 HVS ⊢
                have hxs : x < s.size := by omega
                have ebm := byt_eq s x hxs
                have HX := hide hx
                clear ekm hx hkm
                go_wp2
                go_round
                case rel => exact ⟨m + 1, by omega, by have := HX.out; go_num, by rw [HVS.out]; go_num⟩
                case measure => have := HX.out; simp [intOf]; omega
              · have em : (k : Int) + (m : Int) = (j : Int) := by omega
                have eall : valN (s.extract k j).data.toList m = valOf (s.extract k j).data.toList := by
                  rw [← valN_all, size_len, HSZ.out, show m = j - k by omega]
                rw [em, eall]
                clear em eall
                go_wp2
                refine bodyPost_ret (v := .tuple #[.agg #[.int .u8 110, .string ⟨#[]⟩, .int .i64 (k : Int), .int .i64 (valOf (s.extract k j).data.toList : Nat)], .int .i64 (j : Int)]) (by simp [results, Try.results109, go_sem]) rfl ?_
                exact ⟨by rw [HV.out, HEJ.out], (Below.refl _ _).alloc (Nat.le_refl _) _⟩
      · have he : endOf s k = j := by rw [HJ.out]; exact runTo_stop s 2 _ j (by omega)
        have HEJ := hide he
        rw [he] at HF HDG
        have i5 : (k : Int) ≤ (j : Int) := by omega
        have i6 : (j : Int) ≤ (s.size : Int) := by omega
        have hsz : (s.extract k j).size = j - k := extract_size s k j hj2
        have HSZ := hide hsz
        clear he hsz
        by_cases h18 : 18 < j - k
        · have HV := hide (HF.out.1 (by rw [HSZ.out]; exact h18))
          have i8 : (18 : Int) < (j : Int) - (k : Int) := by omega
          go_wp2_with fail
          refine bodyPost_ret (v := .tuple #[.agg #[.int .u8 120, .string ⟨#[]⟩, .int .i64 (k : Int), .int .i64 0], .int .i64 (j : Int)]) (by simp [results, Try.results109, go_sem]) rfl ?_
          exact ⟨by rw [HV.out, HEJ.out], (Below.refl _ _).alloc (Nat.le_refl _) _⟩
        · have HV := hide (HF.out.2 (by rw [HSZ.out]; exact h18))
          have i8 : ¬ (18 : Int) < (j : Int) - (k : Int) := by omega
          go_wp2_with fail
          go_loop [10, 11] (fun v i => ∃ m : Nat, m ≤ j - k ∧ i = .int .i64 ((k : Int) + (m : Int)) ∧ v = .int .i64 (valN (s.extract k j).data.toList m : Nat)) (fun _ i => j - (intOf i).toNat)
          case atStart => exact ⟨0, by omega, by simp, rfl⟩
          case round =>
            obtain ⟨m, hm, rfl, rfl⟩ := hrel
            by_cases hml : m < j - k
            · have hl : m < (s.extract k j).data.toList.length := by rw [size_len, HSZ.out]; exact hml
              have hb17 := valN_17 (s.extract k j).data.toList HDG.out m (by omega) (by omega)
              have hdig := HDG.out _ (List.getElem_mem (h := hl))
              have hbe := byt_ext s k j m hj2 (by omega) hl
              have HVS : Hid (valN (s.extract k j).data.toList (m + 1) = valN (s.extract k j).data.toList m * 10 + (byt s (k + m) - 48)) := hide (by rw [valN_succ _ m hl, hbe])
              rw [hbe] at hdig
              obtain ⟨hd1, hd2⟩ := hdig
              have hkm : k + m < s.size := by omega
              have ekm : (k : Int) + (m : Int) = ((k + m : Nat) : Int) := by omega
              clear hbe
              generalize valN (s.extract k j).data.toList m = V at *
              obtain ⟨x, hx⟩ : ∃ x, x = k + m := ⟨_, rfl⟩
              have i9 : (x : Int) < (j : Int) := by omega
              rw [ekm]
              rw [← hx] at hd1 hd2 HVS ⊢
              have hxs : x < s.size := by omega
              have ebm := byt_eq s x hxs
              have HX := hide hx
              clear ekm hx hkm
              go_wp2
              go_round
              case rel => exact ⟨m + 1, by omega, by have := HX.out; go_num, by rw [HVS.out]; go_num⟩
              case measure => have := HX.out; simp [intOf]; omega
            · have em : (k : Int) + (m : Int) = (j : Int) := by omega
              have eall : valN (s.extract k j).data.toList m = valOf (s.extract k j).data.toList := by
                rw [← valN_all, size_len, HSZ.out, show m = j - k by omega]
              rw [em, eall]
              clear em eall
              go_wp2
              refine bodyPost_ret (v := .tuple #[.agg #[.int .u8 110, .string ⟨#[]⟩, .int .i64 (k : Int), .int .i64 (valOf (s.extract k j).data.toList : Nat)], .int .i64 (j : Int)]) (by simp [results, Try.results109, go_sem]) rfl ?_
              exact ⟨by rw [HV.out, HEJ.out], (Below.refl _ _).alloc (Nat.le_refl _) _⟩

end Go.Proofs.Ytmndgoapkmhglaa

namespace Go.Proofs.Ytmndgoapkmhglaa
open Go.RowKit
attribute [local go_sem ↓] Go.wp_at_zero Go.wp_at_succ

theorem Try.infoRTok : (Try.prog.info? 140).map (fun i => (i.zero, i.size, i.bytes)) = some (some (.agg #[.int .u8 0, .string ⟨#[]⟩, .int .i64 0, .int .i64 0]), 4, 40) := by kernel_rfl

def RTk.cells (t : RTk) : List Value := [.int .u8 (t.c : Int), .string t.word, .int .i64 (t.pos : Int), .int .i64 (t.n : Int)]
def rkCells (l : List RTk) : List Value := l.flatMap RTk.cells
theorem rkCells_snoc (l : List RTk) (t : RTk) : rkCells (l ++ [t]) = rkCells l ++ t.cells := by simp [rkCells]
theorem rk_len (t : RTk) : t.cells.length = 4 := rfl

set_option maxHeartbeats 2000000 in
set_option maxRecDepth 100000 in
theorem rtokens_any (s : ByteArray) (w : World) (hs : s.size ≤ 1500) :
    Calls Try.prog 70 #[.string s] w fun e w' => ∃ v, e = .returned v ∧ w'.ownsRow w.heap.size 140 4 v (rtoks s).length (rkCells (rtoks s)) ∧ Below w.heap.size w w' := by
  obtain ⟨i0, hi0, hz0, hz1, hz2⟩ := info_parts Try.infoRTok
  go_enter Try.func70, Try.ntmps70
  go_wp2
  go_loopw [3, 4] (fun v i wr => ∃ (k : Nat) (l : List Tk), k ≤ s.size ∧ i = .int .i64 k ∧ l ++ toksFrom s (s.size - k) k = toksFrom s s.size 0 ∧ l.length ≤ k ∧
      wr.ownsRow w.heap.size 140 4 v l.length (rkCells (l.map rtok)) ∧ Below w.heap.size w wr) (fun _ i _ => s.size - (intOf i).toNat)
  case atStart => exact ⟨0, [], by omega, rfl, by simp, by simp, World.ownsRow_nil _ _ _ _, Below.refl _ _⟩
  case round =>
    obtain ⟨k, l, hk, rfl, hl, hlen, hown, hbel⟩ := hrel
    have HL := hide hl
    clear hl
    by_cases hlt : k < s.size
    · have eb := byt_eq s k hlt
      have h4 := cls_le (byt s k)
      have j1 : (0 : Int) ≤ (k : Int) := by omega
      have j2 : (k : Int) < (s.size : Int) := by omega
      by_cases hb : cls (byt s k) = 0
      · have HB := hide hb
        have hr : rcls (byt s k) = 32 := by unfold rcls; rw [hb]; rfl
        clear hb h4
        go_wp2_with (go_at_call 108; refine (refclass_any _ _).mono ?_; rintro e w' ⟨rfl, hw'⟩; subst hw')
        go_roundw
        case rel => exact ⟨k + 1, l, by omega, by go_num, by rw [← toksFrom_blank s k hlt HB.out]; exact HL.out, by omega, hown, hbel⟩
        case measure => simp [intOf]; omega
      · have hr : ((rcls (byt s k) : Int) == 32) = false := by
          have := rcl_inj h4 (b := 0) (by omega)
          rw [show ((rcl 0 : Nat) : Int) = 32 from rfl] at this
          unfold rcls; rw [this]; simpa using hb
        have HB := hide hb
        have hgt := endOf_gt s k
        have hle := endOf_le s k hlt
        clear hb h4
        go_wp2_with fail
        refine (refclass_any _ _).mono ?_
        rintro e w1 ⟨rfl, hw1⟩
        subst hw1
        go_wp2_with fail
        refine (rtoken_any s k _ hs hlt HB.out).mono ?_
        rintro e w2 ⟨rfl, hb2⟩
        have hown2 := bel_own hown hb2
        have hbel2 : Below w.heap.size w w2 := hbel.trans (hb2.mono hbel.size)
        have hbs := hbel2.size
        obtain ⟨t, ht⟩ : ∃ t, t = rtok (tokAt s k) := ⟨_, rfl⟩
        have HTT := hide ht
        rw [← ht]
        generalize hE : endOf s k = E at *
        have HE := hide hE
        clear hown hbel hb2 ht hE
        go_wp2_with (at_builtin; refine wpList_append_lies _ rfl _ _ _ rfl w.heap.size 140 i0 _ 4 40 Try.underlying118 hi0 hz0 hz1 hz2 rfl (by omega) _ l.length (rkCells (l.map rtok)) rfl ((hown2.alloc _).alloc _) ⟨w2.heap.size + 1, 0, none⟩ 1 1 [.int .u8 (t.c : Int), .string t.word, .int .i64 (t.pos : Int), .int .i64 (t.n : Int)] rfl rfl (World.news_of_block (cs := #[.int .u8 (t.c : Int), .string t.word, .int .i64 (t.pos : Int), .int .i64 (t.n : Int)]) (t := 140) (fr := (0, 0)) (by have := heap_alloc_new (w2.alloc (.cells #[.int .u8 (t.c : Int), .string t.word, .int .i64 (t.pos : Int), .int .i64 (t.n : Int)] 140)) (.cells #[.int .u8 (t.c : Int), .string t.word, .int .i64 (t.pos : Int), .int .i64 (t.n : Int)] 140); simpa using this)) (by simp [Value.oneCell']) (by omega) (by unfold maxLen; omega) (by omega) (by simp; omega) (w2.heap.size + 2) (by simp) ?_; intro gg cap w3 hown3 hgrow hat hlt3)
        go_roundw
        case rel =>
          have e1 : endOf s k = E := HE.out
          refine ⟨E, l ++ [tokAt s k], hle, rfl, ?_, by simp; omega, ?_, ?_⟩
          · rw [List.append_assoc, ← e1]
            have := toksFrom_tok s k hlt HB.out
            rw [List.singleton_append, ← this]
            exact HL.out
          · rw [List.map_append, List.map_cons, List.map_nil, ← HTT.out, rkCells_snoc, List.length_append]
            exact hown3
          · exact ((hbel2.alloc hbel2.size _).alloc (by simp; omega) _).grown hgrow (by simp; omega) (fun j hj => ownBlock_ge hown2 j hj)
        case measure => simp [intOf]; omega
    · have hbs := hbel.size
      go_wp2_with (at_builtin; refine wpList_append_lies _ rfl _ _ _ rfl w.heap.size 140 i0 _ 4 40 Try.underlying118 hi0 hz0 hz1 hz2 rfl (by omega) _ l.length (rkCells (l.map rtok)) rfl (hown.alloc _) ⟨wr.heap.size, 0, none⟩ 1 1 [.int .u8 101, .string ⟨#[]⟩, .int .i64 (s.size : Int), .int .i64 0] rfl rfl (World.news_of_block (cs := #[.int .u8 101, .string ⟨#[]⟩, .int .i64 (s.size : Int), .int .i64 0]) (t := 140) (fr := (0, 0)) (heap_alloc_new wr _)) (by simp [Value.oneCell']) (by omega) (by unfold maxLen; omega) (by omega) (by simp; omega) (wr.heap.size + 1) (by simp) ?_; intro gg cap w1 hown1 hgrow hat hlt1)
      go_ret
      have hE : rtoks s = l.map rtok ++ [⟨101, ⟨#[]⟩, s.size, 0⟩] := by
        have h1 := HL.out
        rw [toksFrom_end s _ k (by omega), List.append_nil] at h1
        rw [rtoks, toks, ← h1, List.map_append]
        rfl
      refine ⟨_, rfl, ?_, ?_⟩
      · rw [hE, rkCells_snoc, List.length_append, List.length_map]
        exact hown1
      · exact (hbel.alloc hbel.size _).grown hgrow (by simp; omega) (fun j hj => ownBlock_ge hown j hj)

end Go.Proofs.Ytmndgoapkmhglaa
