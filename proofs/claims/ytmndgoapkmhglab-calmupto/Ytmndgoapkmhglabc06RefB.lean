import Derived.Test.Ytmndgoapkmhglabc05Bytes
namespace Go.Proofs.Ytmndgoapkmhglab
open Go.RowKit
attribute [local go_sem ↓] Go.wp_at_zero Go.wp_at_succ

theorem rtok_eta (t : RTk) (c : Nat) (wd : ByteArray) (p n : Nat) (h : t = ⟨c, wd, p, n⟩) : t.val = .agg #[.int .u8 (c : Int), .string wd, .int .i64 (p : Int), .int .i64 (n : Int)] := by rw [h]

theorem kind_word {t : ByteArray} (h : kindB t 1 = 2) : keptL.contains t.data.toList = true := by
  unfold kindB kindK wordK at h
  rw [if_pos rfl] at h
  split at h
  · assumption
  split at h <;> cases h

theorem extract_size (s : ByteArray) (a b : Nat) (hb : b ≤ s.size) : (s.extract a b).size = b - a := by
  rw [ByteArray.size_extract]; omega

theorem byt_ext (s : ByteArray) (a b j : Nat) (hb : b ≤ s.size) (hj : a + j < b) (h : j < (s.extract a b).data.toList.length) : ((s.extract a b).data.toList[j]'h).toNat = byt s (a + j) := by
  unfold byt
  have : (s.extract a b).data.toList[j]'h = s.data.toList[a + j]'(by rw [size_len]; omega) := by simp
  rw [this]
  have hlt : a + j < s.data.toList.length := by rw [size_len]; omega
  rw [List.getD_eq_getElem?_getD, List.getElem?_eq_getElem hlt]
  rfl

theorem rtok_num (s : ByteArray) (k : Nat) (h : cls (byt s k) = 2) :
    (18 < (s.extract k (endOf s k)).size → (rtok (tokAt s k)).val = .agg #[.int .u8 120, .string ⟨#[]⟩, .int .i64 (k : Int), .int .i64 0]) ∧
    (¬ 18 < (s.extract k (endOf s k)).size → (rtok (tokAt s k)).val = .agg #[.int .u8 110, .string ⟨#[]⟩, .int .i64 (k : Int), .int .i64 (valOf (s.extract k (endOf s k)).data.toList : Nat)]) := by
  refine ⟨fun h2 => ?_, fun h2 => ?_⟩
  · rw [show tokAt s k = ⟨5, k, s.extract k (endOf s k)⟩ from by unfold tokAt kindB kindK numK; rw [h, if_neg (by decide), if_pos rfl, if_pos (by rw [size_len]; exact h2)]]; rfl
  · rw [show tokAt s k = ⟨3, k, s.extract k (endOf s k)⟩ from by unfold tokAt kindB kindK numK; rw [h, if_neg (by decide), if_pos rfl, if_neg (by rw [size_len]; exact h2)]]; rfl

theorem num_dig (s : ByteArray) (k : Nat) (hk : k < s.size) (h : cls (byt s k) = 2) : ∀ c ∈ (s.extract k (endOf s k)).data.toList, 48 ≤ c.toNat ∧ c.toNat ≤ 57 := by
  intro c hc
  obtain ⟨j, hj, rfl⟩ := List.getElem_of_mem hc
  have hle := endOf_le s k hk
  have hsz : (s.extract k (endOf s k)).data.toList.length = endOf s k - k := by rw [size_len]; exact extract_size s k _ hle
  rw [byt_ext s k (endOf s k) j hle (by omega) hj]
  apply cls_two
  by_cases e : j = 0
  · subst e; exact h
  · have he : endOf s k = runTo s 2 (s.size - (k + 1)) (k + 1) := by unfold endOf; rw [if_pos (.inr h), h]
    exact (runTo_all s 2 (s.size - (k + 1)) (k + 1) (k + j) (by omega) (by omega)).1

theorem rtok_word (s : ByteArray) (k : Nat) (h : cls (byt s k) = 1) :
    (keptL.contains (s.extract k (endOf s k)).data.toList = true → (rtok (tokAt s k)).val = .agg #[.int .u8 107, .string (s.extract k (endOf s k)), .int .i64 (k : Int), .int .i64 0]) ∧
    (keptL.contains (s.extract k (endOf s k)).data.toList = false → 8 < (s.extract k (endOf s k)).size → (rtok (tokAt s k)).val = .agg #[.int .u8 120, .string ⟨#[]⟩, .int .i64 (k : Int), .int .i64 0]) ∧
    (keptL.contains (s.extract k (endOf s k)).data.toList = false → ¬ 8 < (s.extract k (endOf s k)).size → (rtok (tokAt s k)).val = .agg #[.int .u8 97, .string (s.extract k (endOf s k)), .int .i64 (k : Int), .int .i64 0]) := by
  refine ⟨fun h1 => ?_, fun h1 h2 => ?_, fun h1 h2 => ?_⟩
  · rw [show tokAt s k = ⟨2, k, s.extract k (endOf s k)⟩ from by unfold tokAt kindB kindK wordK; rw [h, if_pos rfl, if_pos h1]]; rfl
  · rw [show tokAt s k = ⟨5, k, s.extract k (endOf s k)⟩ from by unfold tokAt kindB kindK wordK; rw [h, if_pos rfl, if_neg (by rw [h1]; simp), if_pos (by rw [size_len]; exact h2)]]; rfl
  · rw [show tokAt s k = ⟨1, k, s.extract k (endOf s k)⟩ from by unfold tokAt kindB kindK wordK; rw [h, if_pos rfl, if_neg (by rw [h1]; simp), if_neg (by rw [size_len]; exact h2)]]; rfl

set_option maxHeartbeats 2000000 in
set_option maxRecDepth 100000 in
theorem rtoken_any (s : ByteArray) (k : Nat) (w : World) (hs : s.size ≤ 1500) (hk : k < s.size) (hc : cls (byt s k) ≠ 0) :
    Calls Try.prog 89 #[.string s, .int .i64 (k : Int)] w fun e w' => e = .returned (.tuple #[(rtok (tokAt s k)).val, .int .i64 (endOf s k : Nat)]) ∧ Below w.heap.size w w' := by
  have eb := byt_eq s k hk
  have hle := endOf_le s k hk
  have hgt := endOf_gt s k
  have h4 := cls_le (byt s k)
  have i1 : (0 : Int) ≤ (k : Int) := by omega
  have i2 : (k : Int) < (s.size : Int) := by omega
  have hcc : cls (byt s k) = 3 ∨ cls (byt s k) = 4 ∨ cls (byt s k) = 1 ∨ cls (byt s k) = 2 := by omega
  rcases hcc with h | h | h | h
  · have he : endOf s k = k + 1 := by unfold endOf; rw [if_neg (by omega)]
    have HF : Hid ((rtok (tokAt s k)).val = .agg #[.int .u8 115, .string (s.extract k (k + 1)), .int .i64 (k : Int), .int .i64 0] ∧ endOf s k = k + 1) := hide ⟨by rw [show tokAt s k = ⟨4, k, s.extract k (k + 1)⟩ from by unfold tokAt kindB kindK; rw [h, he]; rfl]; rfl, he⟩
    have hr : rcls (byt s k) = 115 := by unfold rcls; rw [h]; rfl
    clear h hc h4 hle hgt he
    go_enter Try.func89, Try.ntmps89
    go_wp2_with (go_at_call 88; refine (refclass_any _ _).mono ?_; rintro e w' ⟨rfl, rfl⟩)
    refine bodyPost_ret (v := .tuple #[.agg #[.int .u8 115, .string (s.extract k (k + 1)), .int .i64 (k : Int), .int .i64 0], .int .i64 ((k : Int) + 1)]) (by simp [results, Try.results89, go_sem]) rfl ?_
    exact ⟨by rw [HF.out.1, HF.out.2]; rfl, (Below.refl _ _).alloc (Nat.le_refl _) _⟩
  · have he : endOf s k = k + 1 := by unfold endOf; rw [if_neg (by omega)]
    have HF : Hid ((rtok (tokAt s k)).val = .agg #[.int .u8 120, .string ⟨#[]⟩, .int .i64 (k : Int), .int .i64 0] ∧ endOf s k = k + 1) := hide ⟨by rw [show tokAt s k = ⟨5, k, s.extract k (k + 1)⟩ from by unfold tokAt kindB kindK; rw [h, he]; rfl]; rfl, he⟩
    have hr : rcls (byt s k) = 120 := by unfold rcls; rw [h]; rfl
    clear h hc h4 hle hgt he
    go_enter Try.func89, Try.ntmps89
    go_wp2_with (go_at_call 88; refine (refclass_any _ _).mono ?_; rintro e w' ⟨rfl, rfl⟩)
    refine bodyPost_ret (v := .tuple #[.agg #[.int .u8 120, .string ⟨#[]⟩, .int .i64 (k : Int), .int .i64 0], .int .i64 ((k : Int) + 1)]) (by simp [results, Try.results89, go_sem]) rfl ?_
    exact ⟨by rw [HF.out.1, HF.out.2]; rfl, (Below.refl _ _).alloc (Nat.le_refl _) _⟩
  · have HE : Hid (endOf s k = runTo s 1 (s.size - (k + 1)) (k + 1)) := hide (by unfold endOf; rw [if_pos (.inl h), h])
    have HF := hide (rtok_word s k h)
    have hr : rcls (byt s k) = 97 := by unfold rcls; rw [h]; rfl
    clear h hc h4 hle hgt
    go_enter Try.func89, Try.ntmps89
    go_wp2_with (go_at_call 88; refine (refclass_any _ _).mono ?_; rintro e w' ⟨rfl, rfl⟩)
    go_loop [7] (fun i => ∃ j : Nat, k + 1 ≤ j ∧ j ≤ s.size ∧ i = .int .i64 j ∧ endOf s k = runTo s 1 (s.size - j) j) (fun i => s.size - (intOf i).toNat)
    case atStart => exact ⟨k + 1, Nat.le_refl _, hk, by go_num, HE.out⟩
    case round =>
      obtain ⟨j, hj1, hj2, rfl, hj3⟩ := hrel
      have HJ := hide hj3
      clear hj3
      by_cases hlt : j < s.size
      · have ebj := byt_eq s j hlt
        have h4j := cls_le (byt s j)
        have i3 : (0 : Int) ≤ (j : Int) := by omega
        have i4 : (j : Int) < (s.size : Int) := by omega
        by_cases hcj : cls (byt s j) = 1
        · have hrj : rcls (byt s j) = 97 := by unfold rcls; rw [hcj]; rfl
          have HCJ := hide hcj
          clear hcj h4j
          go_wp2_with (go_at_call 88; refine (refclass_any _ _).mono ?_; rintro e w' ⟨rfl, rfl⟩)
          go_round
          case rel => exact ⟨j + 1, by omega, by omega, by go_num, by rw [HJ.out, runTo_step s 1 j hlt HCJ.out]⟩
          case measure => simp [intOf]; omega
        · have hrj : ((rcls (byt s j) : Int) == 97) = false := by
            have := rcl_inj h4j (b := 1) (by omega)
            rw [show ((rcl 1 : Nat) : Int) = 97 from rfl] at this
            unfold rcls; rw [this]; simpa using hcj
          have he : endOf s k = j := by rw [HJ.out]; exact runTo_stop s 1 _ j (fun h => hcj h.2)
          clear hcj h4j
          have HEJ := hide he
          rw [he] at HF
          have i5 : (k : Int) ≤ (j : Int) := by omega
          have i6 : (j : Int) ≤ (s.size : Int) := by omega
          have hsz : (s.extract k j).size = j - k := extract_size s k j hj2
          have HSZ := hide hsz
          clear he hsz
          have i7 : (j : Int) - (k : Int) = ((j - k : Nat) : Int) := by omega
          by_cases hkp : keptL.contains (s.extract k j).data.toList = true
          · have HV := HF.out.1 hkp
            have HVH := hide HV
            clear HV
            go_wp2_with fail
            refine (refclass_any _ _).mono ?_
            rintro e w' ⟨rfl, rfl⟩
            go_wp2_with fail
            refine (rkept_any _ _).mono ?_
            rintro e w' ⟨rfl, rfl⟩
            rw [hkp]
            clear hkp
            go_wp2_with fail
            refine bodyPost_ret (v := .tuple #[.agg #[.int .u8 107, .string (s.extract k j), .int .i64 (k : Int), .int .i64 0], .int .i64 (j : Int)]) (by simp [results, Try.results89, go_sem]) rfl ?_
            exact ⟨by rw [HVH.out, HEJ.out], (Below.refl _ _).alloc (Nat.le_refl _) _⟩
          · have hkp' : keptL.contains (s.extract k j).data.toList = false := by simpa using hkp
            by_cases h8 : 8 < j - k
            · have HV := hide (HF.out.2.1 hkp' (by rw [HSZ.out]; exact h8))
              have i8 : (8 : Int) < ((s.extract k j).size : Int) := by rw [HSZ.out]; omega
              go_wp2_with fail
              refine (refclass_any _ _).mono ?_
              rintro e w' ⟨rfl, rfl⟩
              go_wp2_with fail
              refine (rkept_any _ _).mono ?_
              rintro e w' ⟨rfl, rfl⟩
              rw [hkp']
              clear hkp hkp'
              go_wp2_with fail
              refine bodyPost_ret (v := .tuple #[.agg #[.int .u8 120, .string ⟨#[]⟩, .int .i64 (k : Int), .int .i64 0], .int .i64 (j : Int)]) (by simp [results, Try.results89, go_sem]) rfl ?_
              exact ⟨by rw [HV.out, HEJ.out], (Below.refl _ _).alloc (Nat.le_refl _) _⟩
            · have HV := hide (HF.out.2.2 hkp' (by rw [HSZ.out]; exact h8))
              have i8 : ¬ (8 : Int) < ((s.extract k j).size : Int) := by rw [HSZ.out]; omega
              go_wp2_with fail
              refine (refclass_any _ _).mono ?_
              rintro e w' ⟨rfl, rfl⟩
              go_wp2_with fail
              refine (rkept_any _ _).mono ?_
              rintro e w' ⟨rfl, rfl⟩
              rw [hkp']
              clear hkp hkp'
              go_wp2_with fail
              refine bodyPost_ret (v := .tuple #[.agg #[.int .u8 97, .string (s.extract k j), .int .i64 (k : Int), .int .i64 0], .int .i64 (j : Int)]) (by simp [results, Try.results89, go_sem]) rfl ?_
              exact ⟨by rw [HV.out, HEJ.out], (Below.refl _ _).alloc (Nat.le_refl _) _⟩
      · have he : endOf s k = j := by rw [HJ.out]; exact runTo_stop s 1 _ j (by omega)
        have HEJ := hide he
        rw [he] at HF
        have i5 : (k : Int) ≤ (j : Int) := by omega
        have i6 : (j : Int) ≤ (s.size : Int) := by omega
        have hsz : (s.extract k j).size = j - k := extract_size s k j hj2
        have HSZ := hide hsz
        clear he hsz
        have i7 : (j : Int) - (k : Int) = ((j - k : Nat) : Int) := by omega
        by_cases hkp : keptL.contains (s.extract k j).data.toList = true
        · have HV := HF.out.1 hkp
          have HVH := hide HV
          clear HV
          go_wp2_with fail
          refine (rkept_any _ _).mono ?_
          rintro e w' ⟨rfl, rfl⟩
          rw [hkp]
          clear hkp
          go_wp2_with fail
          refine bodyPost_ret (v := .tuple #[.agg #[.int .u8 107, .string (s.extract k j), .int .i64 (k : Int), .int .i64 0], .int .i64 (j : Int)]) (by simp [results, Try.results89, go_sem]) rfl ?_
          exact ⟨by rw [HVH.out, HEJ.out], (Below.refl _ _).alloc (Nat.le_refl _) _⟩
        · have hkp' : keptL.contains (s.extract k j).data.toList = false := by simpa using hkp
          by_cases h8 : 8 < j - k
          · have HV := hide (HF.out.2.1 hkp' (by rw [HSZ.out]; exact h8))
            have i8 : (8 : Int) < ((s.extract k j).size : Int) := by rw [HSZ.out]; omega
            go_wp2_with fail
            refine (rkept_any _ _).mono ?_
            rintro e w' ⟨rfl, rfl⟩
            rw [hkp']
            clear hkp hkp'
            go_wp2_with fail
            refine bodyPost_ret (v := .tuple #[.agg #[.int .u8 120, .string ⟨#[]⟩, .int .i64 (k : Int), .int .i64 0], .int .i64 (j : Int)]) (by simp [results, Try.results89, go_sem]) rfl ?_
            exact ⟨by rw [HV.out, HEJ.out], (Below.refl _ _).alloc (Nat.le_refl _) _⟩
          · have HV := hide (HF.out.2.2 hkp' (by rw [HSZ.out]; exact h8))
            have i8 : ¬ (8 : Int) < ((s.extract k j).size : Int) := by rw [HSZ.out]; omega
            go_wp2_with fail
            refine (rkept_any _ _).mono ?_
            rintro e w' ⟨rfl, rfl⟩
            rw [hkp']
            clear hkp hkp'
            go_wp2_with fail
            refine bodyPost_ret (v := .tuple #[.agg #[.int .u8 97, .string (s.extract k j), .int .i64 (k : Int), .int .i64 0], .int .i64 (j : Int)]) (by simp [results, Try.results89, go_sem]) rfl ?_
            exact ⟨by rw [HV.out, HEJ.out], (Below.refl _ _).alloc (Nat.le_refl _) _⟩
  · have HE : Hid (endOf s k = runTo s 2 (s.size - (k + 1)) (k + 1)) := hide (by unfold endOf; rw [if_pos (.inr h), h])
    have HF := hide (rtok_num s k h)
    have HDG := hide (num_dig s k hk h)
    have hr : rcls (byt s k) = 48 := by unfold rcls; rw [h]; rfl
    clear h hc h4 hle hgt
    go_enter Try.func89, Try.ntmps89
    go_wp2_with (go_at_call 88; refine (refclass_any _ _).mono ?_; rintro e w' ⟨rfl, rfl⟩)
    go_loop [7] (fun i => ∃ j : Nat, k + 1 ≤ j ∧ j ≤ s.size ∧ i = .int .i64 j ∧ endOf s k = runTo s 2 (s.size - j) j) (fun i => s.size - (intOf i).toNat)
    case atStart => exact ⟨k + 1, Nat.le_refl _, hk, by go_num, HE.out⟩
    case round =>
      obtain ⟨j, hj1, hj2, rfl, hj3⟩ := hrel
      have HJ := hide hj3
      clear hj3
      by_cases hlt : j < s.size
      · have ebj := byt_eq s j hlt
        have h4j := cls_le (byt s j)
        have i3 : (0 : Int) ≤ (j : Int) := by omega
        have i4 : (j : Int) < (s.size : Int) := by omega
        by_cases hcj : cls (byt s j) = 2
        · have hrj : rcls (byt s j) = 48 := by unfold rcls; rw [hcj]; rfl
          have HCJ := hide hcj
          clear hcj h4j
          go_wp2_with (go_at_call 88; refine (refclass_any _ _).mono ?_; rintro e w' ⟨rfl, rfl⟩)
          go_round
          case rel => exact ⟨j + 1, by omega, by omega, by go_num, by rw [HJ.out, runTo_step s 2 j hlt HCJ.out]⟩
          case measure => simp [intOf]; omega
        · have hrj : ((rcls (byt s j) : Int) == 48) = false := by
            have := rcl_inj h4j (b := 2) (by omega)
            rw [show ((rcl 2 : Nat) : Int) = 48 from rfl] at this
            unfold rcls; rw [this]; simpa using hcj
          have he : endOf s k = j := by rw [HJ.out]; exact runTo_stop s 2 _ j (fun h => hcj h.2)
          clear hcj h4j
          have HEJ := hide he
          rw [he] at HF HDG
          have i5 : (k : Int) ≤ (j : Int) := by omega
          have i6 : (j : Int) ≤ (s.size : Int) := by omega
          have hsz : (s.extract k j).size = j - k := extract_size s k j hj2
          have HSZ := hide hsz
          clear he hsz
          by_cases h18 : 18 < j - k
          · have HV := hide (HF.out.1 (by rw [HSZ.out]; exact h18))
            have i8 : (18 : Int) < (j : Int) - (k : Int) := by omega
            go_wp2_with fail
            refine (refclass_any _ _).mono ?_
            rintro e w' ⟨rfl, rfl⟩
            go_wp2_with fail
            refine bodyPost_ret (v := .tuple #[.agg #[.int .u8 120, .string ⟨#[]⟩, .int .i64 (k : Int), .int .i64 0], .int .i64 (j : Int)]) (by simp [results, Try.results89, go_sem]) rfl ?_
            exact ⟨by rw [HV.out, HEJ.out], (Below.refl _ _).alloc (Nat.le_refl _) _⟩
          · have HV := hide (HF.out.2 (by rw [HSZ.out]; exact h18))
            have i8 : ¬ (18 : Int) < (j : Int) - (k : Int) := by omega
            go_wp2_with fail
            refine (refclass_any _ _).mono ?_
            rintro e w' ⟨rfl, rfl⟩
            go_wp2_with fail
            go_loop [10, 11] (fun v i => ∃ m : Nat, m ≤ j - k ∧ i = .int .i64 ((k : Int) + (m : Int)) ∧ v = .int .i64 (valN (s.extract k j).data.toList m : Nat)) (fun _ i => j - (intOf i).toNat)
            case atStart => exact ⟨0, by omega, by simp, rfl⟩
            case round =>
              obtain ⟨m, hm, rfl, rfl⟩ := hrel
              by_cases hml : m < j - k
              · have hl : m < (s.extract k j).data.toList.length := by rw [size_len, HSZ.out]; exact hml
                have hb17 := valN_17 (s.extract k j).data.toList HDG.out m (by omega) (by omega)
                have hdig := HDG.out _ (List.getElem_mem (h := hl))
                have hbe := byt_ext s k j m hj2 (by omega) hl
                have HVS : Hid (valN (s.extract k j).data.toList (m + 1) = valN (s.extract k j).data.toList m * 10 + (byt s (k + m) - 48)) := hide (by rw [valN_succ _ m hl, hbe])
                rw [hbe] at hdig
                obtain ⟨hd1, hd2⟩ := hdig
                have hkm : k + m < s.size := by omega
                have ekm : (k : Int) + (m : Int) = ((k + m : Nat) : Int) := by omega
                clear hbe
                generalize valN (s.extract k j).data.toList m = V at *
                obtain ⟨x, hx⟩ : ∃ x, x = k + m := ⟨_, rfl⟩
                have i9 : (x : Int) < (j : Int) := by omega
                rw [ekm]
                rw [← hx] at hd1 hd2 HVS ⊢
                have hxs : x < s.size := by omega
                have ebm := byt_eq s x hxs
                have HX := hide hx
                clear ekm hx hkm
                go_wp2
                go_round
                case rel => exact ⟨m + 1, by omega, by have := HX.out; go_num, by rw [HVS.out]; go_num⟩
                case measure => have := HX.out; simp [intOf]; omega
              · have em : (k : Int) + (m : Int) = (j : Int) := by omega
                have eall : valN (s.extract k j).data.toList m = valOf (s.extract k j).data.toList := by
                  rw [← valN_all, size_len, HSZ.out, show m = j - k by omega]
                rw [em, eall]
                clear em eall
                go_wp2
                refine bodyPost_ret (v := .tuple #[.agg #[.int .u8 110, .string ⟨#[]⟩, .int .i64 (k : Int), .int .i64 (valOf (s.extract k j).data.toList : Nat)], .int .i64 (j : Int)]) (by simp [results, Try.results89, go_sem]) rfl ?_
                exact ⟨by rw [HV.out, HEJ.out], (Below.refl _ _).alloc (Nat.le_refl _) _⟩
      · have he : endOf s k = j := by rw [HJ.out]; exact runTo_stop s 2 _ j (by omega)
        have HEJ := hide he
        rw [he] at HF HDG
        have i5 : (k : Int) ≤ (j : Int) := by omega
        have i6 : (j : Int) ≤ (s.size : Int) := by omega
        have hsz : (s.extract k j).size = j - k := extract_size s k j hj2
        have HSZ := hide hsz
        clear he hsz
        by_cases h18 : 18 < j - k
        · have HV := hide (HF.out.1 (by rw [HSZ.out]; exact h18))
          have i8 : (18 : Int) < (j : Int) - (k : Int) := by omega
          go_wp2_with fail
          refine bodyPost_ret (v := .tuple #[.agg #[.int .u8 120, .string ⟨#[]⟩, .int .i64 (k : Int), .int .i64 0], .int .i64 (j : Int)]) (by simp [results, Try.results89, go_sem]) rfl ?_
          exact ⟨by rw [HV.out, HEJ.out], (Below.refl _ _).alloc (Nat.le_refl _) _⟩
        · have HV := hide (HF.out.2 (by rw [HSZ.out]; exact h18))
          have i8 : ¬ (18 : Int) < (j : Int) - (k : Int) := by omega
          go_wp2_with fail
          go_loop [10, 11] (fun v i => ∃ m : Nat, m ≤ j - k ∧ i = .int .i64 ((k : Int) + (m : Int)) ∧ v = .int .i64 (valN (s.extract k j).data.toList m : Nat)) (fun _ i => j - (intOf i).toNat)
          case atStart => exact ⟨0, by omega, by simp, rfl⟩
          case round =>
            obtain ⟨m, hm, rfl, rfl⟩ := hrel
            by_cases hml : m < j - k
            · have hl : m < (s.extract k j).data.toList.length := by rw [size_len, HSZ.out]; exact hml
              have hb17 := valN_17 (s.extract k j).data.toList HDG.out m (by omega) (by omega)
              have hdig := HDG.out _ (List.getElem_mem (h := hl))
              have hbe := byt_ext s k j m hj2 (by omega) hl
              have HVS : Hid (valN (s.extract k j).data.toList (m + 1) = valN (s.extract k j).data.toList m * 10 + (byt s (k + m) - 48)) := hide (by rw [valN_succ _ m hl, hbe])
              rw [hbe] at hdig
              obtain ⟨hd1, hd2⟩ := hdig
              have hkm : k + m < s.size := by omega
              have ekm : (k : Int) + (m : Int) = ((k + m : Nat) : Int) := by omega
              clear hbe
              generalize valN (s.extract k j).data.toList m = V at *
              obtain ⟨x, hx⟩ : ∃ x, x = k + m := ⟨_, rfl⟩
              have i9 : (x : Int) < (j : Int) := by omega
              rw [ekm]
              rw [← hx] at hd1 hd2 HVS ⊢
              have hxs : x < s.size := by omega
              have ebm := byt_eq s x hxs
              have HX := hide hx
              clear ekm hx hkm
              go_wp2
              go_round
              case rel => exact ⟨m + 1, by omega, by have := HX.out; go_num, by rw [HVS.out]; go_num⟩
              case measure => have := HX.out; simp [intOf]; omega
            · have em : (k : Int) + (m : Int) = (j : Int) := by omega
              have eall : valN (s.extract k j).data.toList m = valOf (s.extract k j).data.toList := by
                rw [← valN_all, size_len, HSZ.out, show m = j - k by omega]
              rw [em, eall]
              clear em eall
              go_wp2
              refine bodyPost_ret (v := .tuple #[.agg #[.int .u8 110, .string ⟨#[]⟩, .int .i64 (k : Int), .int .i64 (valOf (s.extract k j).data.toList : Nat)], .int .i64 (j : Int)]) (by simp [results, Try.results89, go_sem]) rfl ?_
              exact ⟨by rw [HV.out, HEJ.out], (Below.refl _ _).alloc (Nat.le_refl _) _⟩

end Go.Proofs.Ytmndgoapkmhglab
