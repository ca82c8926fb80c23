import Derived.Test.Ytmndgoapkmhglabc11RefHa
import Derived.Test.Ytmndgoapkmhglabc22JudC
import Derived.Test.Ytmndgoapkmhglabc28RefX
import Derived.Test.Ytmndgoapkmhglabc32OpenL
import Derived.Test.Ytmndgoapkmhglabc35PlyL
namespace Go.Proofs.Ytmndgoapkmhglab
open Go.RowKit
attribute [local go_sem ↓] Go.wp_at_zero Go.wp_at_succ
theorem drop_byt (s : ByteArray) (k : Nat) (h : k < s.size) : ∃ c : UInt8, s.data.toList.drop k = c :: s.data.toList.drop (k + 1) ∧ c.toNat = byt s k := by
  have hl := size_list s
  refine ⟨s.data.toList[k]'(by omega), List.drop_eq_getElem_cons (by omega), ?_⟩
  unfold byt
  rw [List.getD_eq_getElem?_getD, List.getElem?_eq_getElem (by omega)]
  rfl
def numB (s : ByteArray) (k : Nat) : Int := match numL k (s.data.toList.drop k) with
  | some v => (v : Int)
  | none => -1
theorem numB_skip (s : ByteArray) (k : Nat) (h : k < s.size) (hc : ¬ (48 ≤ byt s k ∧ byt s k ≤ 57)) : numB s k = numB s (k + 1) := by
  obtain ⟨c, hd, he⟩ := drop_byt s k h
  unfold numB
  rw [hd]
  have : W 2 c = false := by
    unfold W
    cases hw : (cls c.toNat == 2) with
    | false => rfl
    | true => have := cls_two (beq_iff_eq.1 hw); omega
  simp only [numL, this]
  rfl
theorem numB_end (s : ByteArray) (k : Nat) (h : s.size ≤ k) : numB s k = -1 := by
  have hl := size_list s
  unfold numB
  rw [List.drop_eq_nil_of_le (by omega)]
  rfl
theorem numB_dig (s : ByteArray) (k : Nat) (h : k < s.size) (hc : 48 ≤ byt s k ∧ byt s k ≤ 57) : numB s k = ((k + ((s.data.toList.drop (k + 1)).takeWhile (W 2)).length : Nat) : Int) := by
  obtain ⟨c, hd, he⟩ := drop_byt s k h
  unfold numB
  rw [hd]
  have : W 2 c = true := by unfold W; rw [he, cls_2 hc.1 hc.2]; rfl
  simp only [numL, this]
  rfl
theorem dig_more (s : ByteArray) (k : Nat) (h : k < s.size) (hc : 48 ≤ byt s k ∧ byt s k ≤ 57) : ((s.data.toList.drop k).takeWhile (W 2)).length = ((s.data.toList.drop (k + 1)).takeWhile (W 2)).length + 1 := by
  obtain ⟨c, hd, he⟩ := drop_byt s k h
  rw [hd, List.takeWhile_cons, if_pos (by unfold W; rw [he, cls_2 hc.1 hc.2]; rfl)]
  rfl
theorem dig_stop (s : ByteArray) (k : Nat) (hc : s.size ≤ k ∨ ¬ (48 ≤ byt s k ∧ byt s k ≤ 57)) : ((s.data.toList.drop k).takeWhile (W 2)).length = 0 := by
  by_cases h : k < s.size
  · obtain ⟨c, hd, he⟩ := drop_byt s k h
    have : W 2 c = false := by
      unfold W
      cases hw : (cls c.toNat == 2) with
      | false => rfl
      | true => have := cls_two (beq_iff_eq.1 hw); omega
    rw [hd, List.takeWhile_cons, this]
    rfl
  · have hl := size_list s
    rw [List.drop_eq_nil_of_le (by omega)]
    rfl
set_option maxHeartbeats 1000000 in
theorem number_any (s : ByteArray) (k0 : Nat) (w : World) (hs : s.size ≤ 1048576) (hk0 : k0 ≤ s.size) :
    Calls Try.prog 70 #[.string s, .int .i64 (k0 : Int)] w fun e w' => e = .returned (.int .i64 (numB s k0)) ∧ w = w' := by
  obtain ⟨R, hR⟩ : ∃ R, R = numB s k0 := ⟨_, rfl⟩
  rw [← hR]
  have HR := hide hR
  clear hR
  go_enter Try.func70, Try.ntmps70
  go_wp2
  go_loop [5] (fun v => ∃ k : Nat, k ≤ s.size ∧ v = .int .i64 k ∧ R = numB s k) (fun v => s.size - (intOf v).toNat)
  case atStart => exact ⟨k0, hk0, rfl, HR.out⟩
  case round =>
    obtain ⟨k, hk, rfl, hrk⟩ := hrel
    have HK := hide hrk
    clear hrk
    by_cases hlt : k < s.size
    · have eb := byt_eq s k hlt
      by_cases h1 : byt s k < 48
      · have HN : Hid (R = numB s (k + 1)) := hide (by rw [HK.out, numB_skip s k hlt (by omega)])
        have z1 : (byt s k : Int) < 48 := by omega
        clear h1
        go_wp2
        go_round
        case rel => exact ⟨k + 1, by omega, by go_num, HN.out⟩
        case measure => simp [intOf]; omega
      · by_cases h2 : 57 < byt s k
        · have HN : Hid (R = numB s (k + 1)) := hide (by rw [HK.out, numB_skip s k hlt (by omega)])
          have z1 : ¬ (byt s k : Int) < 48 := by omega
          have z2 : 57 < (byt s k : Int) := by omega
          clear h1 h2
          go_wp2
          go_round
          case rel => exact ⟨k + 1, by omega, by go_num, HN.out⟩
          case measure => simp [intOf]; omega
        · have z1 : ¬ (byt s k : Int) < 48 := by omega
          have z2 : ¬ 57 < (byt s k : Int) := by omega
          have HD : Hid (R = ((k + ((s.data.toList.drop (k + 1)).takeWhile (W 2)).length : Nat) : Int)) := hide (by rw [HK.out, numB_dig s k hlt (by omega)])
          clear h1 h2
          go_wp2
          go_loop [5] (fun v => ∃ m : Nat, m < s.size ∧ v = .int .i64 m ∧ R = ((m + ((s.data.toList.drop (m + 1)).takeWhile (W 2)).length : Nat) : Int)) (fun v => s.size - (intOf v).toNat)
          case atStart => exact ⟨k, hlt, rfl, HD.out⟩
          case round =>
            obtain ⟨m, hm, rfl, hrm⟩ := hrel
            have HM := hide hrm
            clear hrm z1 z2 eb
            by_cases hlt2 : m + 1 < s.size
            · have eb := byt_eq s (m + 1) hlt2
              have z0 : (m : Int) + 1 < (s.size : Int) := by omega
              by_cases h1 : byt s (m + 1) < 48
              · have HS := hide (dig_stop s (m + 1) (.inr (by omega)))
                have z1 : ¬ 48 ≤ (byt s (m + 1) : Int) := by omega
                clear h1
                go_wp2
                go_ret
                exact ⟨by rw [HM.out, HS.out]; rfl, rfl⟩
              · by_cases h2 : 57 < byt s (m + 1)
                · have HS := hide (dig_stop s (m + 1) (.inr (by omega)))
                  have z1 : 48 ≤ (byt s (m + 1) : Int) := by omega
                  have z2 : ¬ (byt s (m + 1) : Int) ≤ 57 := by omega
                  clear h1 h2
                  go_wp2
                  go_ret
                  exact ⟨by rw [HM.out, HS.out]; rfl, rfl⟩
                · have HS := hide (dig_more s (m + 1) hlt2 (by omega))
                  have z1 : 48 ≤ (byt s (m + 1) : Int) := by omega
                  have z2 : (byt s (m + 1) : Int) ≤ 57 := by omega
                  clear h1 h2
                  go_wp2
                  go_round
                  case rel => exact ⟨m + 1, by omega, by go_num, by rw [HM.out, HS.out]; omega⟩
                  case measure => simp [intOf]; omega
            · have HS := hide (dig_stop s (m + 1) (.inl (by omega)))
              have z0 : ¬ (m : Int) + 1 < (s.size : Int) := by omega
              go_wp2
              go_ret
              exact ⟨by rw [HM.out, HS.out]; rfl, rfl⟩
    · have HN : Hid (R = -1) := hide (by rw [HK.out, numB_end s k (by omega)])
      have ek : k = s.size := by omega
      have z0 : ¬ (k : Int) < (s.size : Int) := by omega
      clear ek
      go_wp2
      go_ret
      exact ⟨by rw [HN.out]; rfl, rfl⟩
theorem cls_one {c : Nat} (h : cls c = 1) : 97 ≤ c ∧ c ≤ 122 := by
  unfold cls at h
  split at h
  · cases h
  · split at h
    · assumption
    · split at h
      · cases h
      · split at h <;> cases h
theorem dwh_head {p : UInt8 → Bool} : ∀ (l : List UInt8) {c : UInt8} {r : List UInt8}, l.dropWhile p = c :: r → p c = false := by
  intro l
  induction l with
  | nil => intro c r h; cases h
  | cons d l ih =>
    intro c r h
    rw [List.dropWhile_cons] at h
    split at h
    · exact ih h
    · rename_i hd; cases h; simpa using hd
def wordE (s : ByteArray) (i : Nat) : Nat := i + ((s.data.toList.drop i).takeWhile (W 1)).length
theorem wordE_le (s : ByteArray) (i : Nat) (h : i ≤ s.size) : wordE s i ≤ s.size := by
  have hl := size_list s
  have h1 := take_drop_len (W 1) (s.data.toList.drop i)
  rw [List.length_drop] at h1
  unfold wordE
  omega
theorem wordE_in (s : ByteArray) (i : Nat) (hi : i ≤ s.size) : ∀ j, i ≤ j → j < wordE s i → j < s.size ∧ 97 ≤ byt s j ∧ byt s j ≤ 122 := by
  intro j h1 h2
  have hl := size_list s
  have hE := wordE_le s i hi
  refine ⟨by omega, ?_⟩
  have hm : s.data.toList[j]'(by omega) ∈ (s.data.toList.drop i).takeWhile (W 1) := by
    have e : (s.data.toList.drop i).takeWhile (W 1) = (s.data.toList.drop i).take ((s.data.toList.drop i).takeWhile (W 1)).length := (takeWhile_take _ _).symm
    rw [e, List.mem_take_iff_getElem]
    refine ⟨j - i, by rw [List.length_drop]; unfold wordE at h2 hE; omega, ?_⟩
    rw [List.getElem_drop]
    congr 1
    omega
  have hc := W_cls (tw_all _ _ _ hm)
  have hb : byt s j = (s.data.toList[j]'(by omega)).toNat := by
    unfold byt; rw [List.getD_eq_getElem?_getD, List.getElem?_eq_getElem (by omega)]; rfl
  rw [← hb] at hc
  exact cls_one hc
theorem wordE_end (s : ByteArray) (i : Nat) (h : wordE s i < s.size) : ¬ (97 ≤ byt s (wordE s i) ∧ byt s (wordE s i) ≤ 122) := by
  intro hc
  have hl := size_list s
  obtain ⟨c, hd, he⟩ := drop_byt s (wordE s i) h
  have h1 : (s.data.toList.drop i).dropWhile (W 1) = s.data.toList.drop (wordE s i) := by
    rw [← takeWhile_drop, List.drop_drop]; rfl
  have h2 : W 1 c = true := by unfold W; rw [he, cls_1 hc.1 hc.2]; rfl
  rw [dwh_head _ (h1.trans hd)] at h2
  cases h2
theorem mk_word (s : ByteArray) (i f : Nat) (hi : i < s.size) (h : i < wordE s i) (hf : s.size - i ≤ f) : mkL f i (s.data.toList.drop i) =
    (if (s.extract i (wordE s i)).data.toList = kAt then (numL (wordE s i) (s.data.toList.drop (wordE s i))).toList else []) ++ mkL (s.size - wordE s i) (wordE s i) (s.data.toList.drop (wordE s i)) := by
  have hl := size_list s
  obtain ⟨c, hd, he⟩ := drop_byt s i hi
  have hE := wordE_le s i (by omega)
  have hc : W 1 c = true := by
    have := (wordE_in s i (by omega) i (Nat.le_refl _) h).2
    unfold W; rw [he, cls_1 this.1 this.2]; rfl
  have hx : (s.extract i (wordE s i)).data.toList = c :: (s.data.toList.drop (i + 1)).takeWhile (W 1) := by
    rw [ByteArray.data_extract, Array.toList_extract, List.extract_eq_take_drop]
    unfold wordE
    rw [Nat.add_sub_cancel_left, takeWhile_take, hd, List.takeWhile_cons, if_pos hc]
  have hw : wordE s i = i + 1 + ((s.data.toList.drop (i + 1)).takeWhile (W 1)).length := by
    unfold wordE; rw [hd, List.takeWhile_cons, if_pos hc, List.length_cons]; omega
  have hdr : (s.data.toList.drop (i + 1)).dropWhile (W 1) = s.data.toList.drop (wordE s i) := by
    rw [← takeWhile_drop, List.drop_drop, hw]
  obtain ⟨f, rfl⟩ : ∃ g, f = g + 1 := ⟨f - 1, by omega⟩
  rw [hd]
  show (if W 1 c then _ else _) = _
  rw [if_pos hc, hdr, ← hw, hx]
  congr 1
  exact mkL_fuel _ _ _ _ (by rw [List.length_drop]; omega) (by rw [List.length_drop]; omega)
theorem mk_skip (s : ByteArray) (i f : Nat) (hi : i < s.size) (h : wordE s i = i) (hf : s.size - i ≤ f) : mkL f i (s.data.toList.drop i) = mkL (s.size - (i + 1)) (i + 1) (s.data.toList.drop (i + 1)) := by
  have hl := size_list s
  obtain ⟨c, hd, he⟩ := drop_byt s i hi
  have hc : W 1 c = false := by
    cases hw : W 1 c with
    | false => rfl
    | true =>
      have := wordE_end s i (by omega)
      rw [h] at this
      unfold W at hw
      rw [he] at hw
      exact absurd (cls_one (by simpa using hw)) this
  obtain ⟨f, rfl⟩ : ∃ g, f = g + 1 := ⟨f - 1, by omega⟩
  rw [hd]
  show (if W 1 c then _ else _) = _
  rw [if_neg (by rw [hc]; decide)]
  exact mkL_fuel _ _ _ _ (by rw [List.length_drop]; omega) (by rw [List.length_drop]; omega)
set_option maxHeartbeats 2000000 in
set_option maxRecDepth 100000 in
theorem marks_any (s : ByteArray) (w : World) (hs : s.size ≤ 1048576) :
    Calls Try.prog 40 #[.string s] w fun e w' => ∃ v, e = .returned v ∧ w'.ownsRow w.heap.size 3 1 v (marksF s).length (pCells (marksF s)) ∧ Below w.heap.size w w' := by
  obtain ⟨i0, hi0, hz0, hz1, hz2⟩ := info_parts Try.infoInt
  have HU : Hid ([] ++ mkL (s.size - 0) 0 (s.data.toList.drop 0) = marksF s) := hide rfl
  go_enter Try.func40, Try.ntmps40
  go_wp2
  go_loopw [3, 4] (fun v vi wr => ∃ (i : Nat) (acc : List Nat), i ≤ s.size ∧ vi = .int .i64 i ∧ acc ++ mkL (s.size - i) i (s.data.toList.drop i) = marksF s ∧ acc.length ≤ i ∧ wr.ownsRow w.heap.size 3 1 v acc.length (pCells acc) ∧ Below w.heap.size w wr) (fun _ vi _ => s.size - (intOf vi).toNat)
  case atStart => exact ⟨0, [], Nat.zero_le _, rfl, HU.out, by simp, World.ownsRow_nil _ _ _ _, Below.refl _ _⟩
  case round =>
    obtain ⟨i, acc, hi, rfl, hrec, hal, hown, hbel⟩ := hrel
    have HOW := hide hown
    have HRC := hide hrec
    have hbs := hbel.size
    clear hrec
    by_cases hlt : i < s.size
    · obtain ⟨E, hE⟩ : ∃ E, E = wordE s i := ⟨_, rfl⟩
      have hE1 : i ≤ E := by rw [hE]; unfold wordE; omega
      have hE2 : E ≤ s.size := by rw [hE]; exact wordE_le s i hi
      have HIN : Hid (∀ j, i ≤ j → j < E → j < s.size ∧ 97 ≤ byt s j ∧ byt s j ≤ 122) := hide (by rw [hE]; exact wordE_in s i hi)
      have HEN : Hid (E < s.size → ¬ (97 ≤ byt s E ∧ byt s E ≤ 122)) := hide (by rw [hE]; exact wordE_end s i)
      have HSK : Hid (E = i → acc ++ mkL (s.size - (i + 1)) (i + 1) (s.data.toList.drop (i + 1)) = marksF s) := hide (fun e => by
        rw [← mk_skip s i (s.size - i) hlt (by rw [← hE, e]) (Nat.le_refl _)]; exact HRC.out)
      have HWD : Hid (i < E → acc ++ ((if (s.extract i E).data.toList = kAt then (numL E (s.data.toList.drop E)).toList else []) ++ mkL (s.size - E) E (s.data.toList.drop E)) = marksF s) := hide (fun h => by
        rw [hE] at h ⊢; rw [← mk_word s i (s.size - i) hlt h (Nat.le_refl _)]; exact HRC.out)
      clear hE HRC
      go_wp2
      go_loop [5] (fun v => ∃ j : Nat, i ≤ j ∧ j ≤ E ∧ v = .int .i64 j) (fun v => s.size - (intOf v).toNat)
      case atStart => exact ⟨i, Nat.le_refl _, hE1, rfl⟩
      case round =>
        obtain ⟨j, hj1, hj2, rfl⟩ := hrel
        by_cases hjE : j < E
        · obtain ⟨h1, h2, h3⟩ := HIN.out j hj1 hjE
          have eb := byt_eq s j h1
          have z1 : 97 ≤ (byt s j : Int) := by omega
          have z2 : (byt s j : Int) ≤ 122 := by omega
          clear h2 h3
          go_wp2
          go_round
          case rel => exact ⟨j + 1, by omega, by omega, by go_num⟩
          case measure => simp [intOf]; omega
        · have ej : j = E := by omega
          subst ej
          have HTH : Hid ((¬ (j : Int) < (s.size : Int)) ∨ (∃ h : j < s.size, (s[j]'h).toNat = byt s j ∧ ¬ (97 : Int) ≤ (byt s j : Int)) ∨ (∃ h : j < s.size, (s[j]'h).toNat = byt s j ∧ (97 : Int) ≤ (byt s j : Int) ∧ ¬ (byt s j : Int) ≤ 122)) := hide (by
            by_cases h : j < s.size
            · have := HEN.out h
              by_cases h9 : 97 ≤ byt s j
              · exact .inr (.inr ⟨h, byt_eq s j h, by omega, by omega⟩)
              · exact .inr (.inl ⟨h, byt_eq s j h, by omega⟩)
            · exact .inl (by omega))
          have i1 : (0 : Int) ≤ (i : Int) := by omega
          have i2 : (i : Int) ≤ (j : Int) := by omega
          have i3 : (j : Int) ≤ (s.size : Int) := by omega
          clear HIN HEN hjE
          by_cases eij : j = i
          · have HS := hide (HSK.out eij)
            have q1 : ((j : Int) == (i : Int)) = true := by rw [eij]; simp
            clear HSK HWD eij
            rcases HTH.out with z0 | ⟨zl, eb, z1⟩ | ⟨zl, eb, z1, z2⟩ <;>
            · clear HTH
              go_wp2
              go_roundw
              case rel => exact ⟨i + 1, acc, by omega, by go_num, HS.out, by omega, HOW.out, hbel⟩
              case measure => simp [intOf]; omega
          · have HS := hide (HWD.out (by omega))
            have q1 : ((j : Int) == (i : Int)) = false := by rw [beq_eq_false_iff_ne]; omega
            have hij : i < j := by omega
            clear HSK HWD eij
            by_cases hat : (s.extract i j).data.toList = kAt
            · have q2 : (s.extract i j).toList = [97, 116] := str_yes hat
              rw [if_pos hat] at HS
              clear hat
              have HNB : Hid (numB s j = match numL j (s.data.toList.drop j) with | some v => (v : Int) | none => -1) := hide rfl
              cases hn : numL j (s.data.toList.drop j) with
              | none =>
                rw [hn] at HS HNB
                have HS2 : Hid (acc ++ mkL (s.size - j) j (s.data.toList.drop j) = marksF s) := hide HS.out
                clear hn HS
                rcases HTH.out with z0 | ⟨zl, eb, z1⟩ | ⟨zl, eb, z1, z2⟩ <;>
                · clear HTH
                  go_wp2_with fail
                  refine (number_any s j _ hs (by omega)).mono ?_
                  rintro e2 w2 ⟨rfl, rfl⟩
                  rw [HNB.out]
                  go_wp2
                  go_roundw
                  case rel => exact ⟨j, acc, by omega, rfl, HS2.out, by omega, HOW.out, hbel⟩
                  case measure => simp [intOf]; omega
              | some v =>
                rw [hn] at HS HNB
                have HS2 : Hid ((acc ++ [v]) ++ mkL (s.size - j) j (s.data.toList.drop j) = marksF s) := hide (by rw [List.append_assoc]; exact HS.out)
                have zv : (0 : Int) ≤ (v : Int) := by omega
                clear hn HS
                rcases HTH.out with z0 | ⟨zl, eb, z1⟩ | ⟨zl, eb, z1, z2⟩ <;>
                · clear HTH
                  go_wp2_with fail
                  refine (number_any s j _ hs (by omega)).mono ?_
                  rintro e2 w2 ⟨rfl, rfl⟩
                  rw [HNB.out]
                  go_wp2_with (at_builtin; refine wpList_append_lies _ rfl _ _ _ rfl w.heap.size 3 i0 _ 1 8 Try.underlying38 hi0 hz0 hz1 hz2 rfl (by omega) _ acc.length (pCells acc) rfl (hown.alloc _) ⟨wr.heap.size, 0, none⟩ 1 1 [.int .i64 (v : Int)] rfl rfl (World.news_of_block (cs := #[.int .i64 (v : Int)]) (t := 3) (fr := (0, 0)) (heap_alloc_new wr _)) (by simp [Value.oneCell']) (by omega) (by unfold maxLen; omega) (by omega) (by simp; omega) (wr.heap.size + 1) (by simp) ?_; intro g3 cap3 w3 hown3 hgrow hat hlt3)
                  go_roundw
                  case rel =>
                    refine ⟨j, acc ++ [v], by omega, rfl, HS2.out, by simp; omega, ?_, ?_⟩
                    · rw [pCells_snoc, List.length_append]; exact hown3
                    · exact (hbel.alloc hbs _).grown hgrow (by simp; omega) (fun j hj => ownBlock_ge hown j hj)
                  case measure => simp [intOf]; omega
            · have q2 : ((s.extract i j).toList == [97, 116]) = false := str_no hat
              rw [if_neg hat, List.nil_append] at HS
              clear hat
              rcases HTH.out with z0 | ⟨zl, eb, z1⟩ | ⟨zl, eb, z1, z2⟩ <;>
              · clear HTH
                go_wp2
                go_roundw
                case rel => exact ⟨j, acc, by omega, rfl, HS.out, by omega, HOW.out, hbel⟩
                case measure => simp [intOf]; omega
    · have ei : i = s.size := by omega
      have HF : Hid (acc = marksF s) := hide (by have h := HRC.out; rw [ei, Nat.sub_self] at h; simpa [mkL] using h)
      clear ei HRC
      go_wp2
      go_ret
      refine ⟨_, rfl, ?_, hbel⟩
      rw [← HF.out]
      exact HOW.out
theorem own_less {w : World} {B B' e size n : Nat} {v : Value} {xs : List Value} (h : w.ownsRow B e size v n xs) (hb : B' ≤ B) : w.ownsRow B' e size v n xs := by
  refine ⟨h.1, ?_⟩
  rcases h.2 with h0 | ⟨g, cap, cur, hv, hg, hr⟩
  · exact .inl h0
  · exact .inr ⟨g, cap, cur, hv, Nat.le_trans hb hg, hr⟩
theorem int_later {w wr : World} {B g cap n : Nat} {M : List Nat} (h : w.ownsRow B 3 1 (.slice (some ⟨g, 0, none⟩) n cap) n (pCells M)) (hb : Below w.heap.size w wr) (hg : g < w.heap.size) {k : Nat} (hk : k < M.length) (hn : k < n) :
    wr.cell? ⟨g, k, none⟩ = some (.int .i64 (M[k] : Nat)) := by
  rw [hb.cell (p := ⟨g, k, none⟩) hg, h.cellAt k (by omega)]
  unfold pCells
  rw [List.getElem?_map, List.getElem?_eq_getElem hk]
  rfl
set_option maxHeartbeats 2000000 in
set_option maxRecDepth 100000 in
theorem seats_any (s : ByteArray) (w : World) (hs : s.size ≤ 1048576) :
    Calls Try.prog 13 #[.string s] w fun e w' => ∃ v, e = .returned v ∧ w'.ownsRow w.heap.size 3 1 v (seatsF s).length (pCells (seatsF s)) ∧ Below w.heap.size w w' := by
  obtain ⟨i0, hi0, hz0, hz1, hz2⟩ := info_parts Try.infoInt
  have HM := hide (marks_any s w hs)
  have HIN := hide (marks_in s)
  have hml : (marksF s).length ≤ 1048576 := Nat.le_trans (mkL_len _ _ _) hs
  have HSF : Hid (seatsF s = (marksF s).map fun m => byt s m - 48) := hide rfl
  generalize marksF s = M at HM HIN hml HSF
  go_enter Try.func13, Try.ntmps13
  go_wp2_with fail
  refine HM.out.mono ?_
  rintro e w1 ⟨vm, rfl, hownM, hb1⟩
  obtain ⟨av, cv, rfl, hsh⟩ := own_shape hownM
  have HOM := hide hownM
  have HSH := hide hsh
  have hbw := hb1.size
  clear HM hownM hsh
  go_wp2
  go_loopw [4, 5] (fun v vi wr => ∃ i : Nat, i ≤ M.length ∧ vi = .int .i64 i ∧ wr.ownsRow w1.heap.size 3 1 v ((M.take i).map fun m => byt s m - 48).length (pCells ((M.take i).map fun m => byt s m - 48)) ∧ Below w1.heap.size w1 wr) (fun _ vi _ => M.length - (intOf vi).toNat)
  case atStart => exact ⟨0, Nat.zero_le _, rfl, World.ownsRow_nil _ _ _ _, Below.refl _ _⟩
  case round =>
    obtain ⟨i, hi, rfl, hown, hbel⟩ := hrel
    have hbs := hbel.size
    have hB : Hid (Below w.heap.size w wr) := hide (hb1.trans (hbel.mono hbw))
    have HOW := hide hown
    by_cases hlt : i < M.length
    · obtain ⟨g, rfl, _, hg⟩ := HSH.out (by omega)
      have r0 := int_later HOM.out hbel hg hlt hlt
      obtain ⟨h1, h2, h3⟩ := HIN.out _ (List.getElem_mem hlt)
      have HT : Hid (M.take (i + 1) = M.take i ++ [M[i]]) := hide (by rw [List.take_add_one, List.getElem?_eq_getElem hlt]; rfl)
      have hlm : ((M.take i).map fun m => byt s m - 48).length = i := by rw [List.length_map, List.length_take]; omega
      generalize M[i] = m at r0 h1 h2 h3 HT
      have eb := byt_eq s m h1
      obtain ⟨d, hd⟩ : ∃ d : Nat, byt s m = d + 48 := ⟨byt s m - 48, by omega⟩
      have HMP : Hid ((M.take (i + 1)).map (fun m => byt s m - 48) = (M.take i).map (fun m => byt s m - 48) ++ [d]) := hide (by rw [HT.out, List.map_append]; simp [hd])
      have j1 : (0 : Int) ≤ (m : Int) := by omega
      have j2 : (m : Int) < (s.size : Int) := by omega
      have j3 : (0 : Int) ≤ (i : Int) := by omega
      have j4 : (i : Int) < (M.length : Int) := by omega
      have em : IntKind.i64.wrap ((byt s m : Int) - 48) = (d : Int) := by rw [wrapI _ (by omega) (by omega)]; omega
      have hd9 : d ≤ 9 := by omega
      rw [hlm] at hown
      generalize (M.take i).map (fun m => byt s m - 48) = acc at hown HMP hlm
      clear HT hd
      go_wp2_with (at_builtin; refine wpList_append_lies _ rfl _ _ _ rfl w1.heap.size 3 i0 _ 1 8 Try.underlying38 hi0 hz0 hz1 hz2 rfl (by omega) _ i (pCells acc) rfl (hown.alloc _) ⟨wr.heap.size, 0, none⟩ 1 1 [.int .i64 (d : Int)] rfl rfl (World.news_of_block (cs := #[.int .i64 (d : Int)]) (t := 3) (fr := (0, 0)) (heap_alloc_new wr _)) (by simp [Value.oneCell']) (by omega) (by unfold maxLen; omega) (by omega) (by simp; omega) (wr.heap.size + 1) (by simp) ?_; intro g3 cap3 w3 hown3 hgrow hat hlt3)
      go_roundw
      case rel =>
        refine ⟨i + 1, by omega, by go_num, ?_, ?_⟩
        · rw [HMP.out, pCells_snoc, List.length_append, hlm]; exact hown3
        · exact (hbel.alloc hbs _).grown hgrow (by simp; omega) (fun j hj => ownBlock_ge hown j hj)
      case measure => simp [intOf]; omega
    · have HE : Hid ((M.take i).map (fun m => byt s m - 48) = seatsF s) := hide (by rw [HSF.out, List.take_of_length_le (by omega)])
      have z0 : ¬ (i : Int) < (M.length : Int) := by omega
      go_wp2
      go_ret
      refine ⟨_, rfl, ?_, hB.out⟩
      rw [← HE.out]
      exact own_less HOW.out hbw

end Go.Proofs.Ytmndgoapkmhglab
