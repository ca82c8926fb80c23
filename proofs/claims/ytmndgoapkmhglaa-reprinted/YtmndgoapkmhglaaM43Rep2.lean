import Derived.Test.YtmndgoapkmhglaaM23RePure
import Derived.Test.YtmndgoapkmhglaaM40LayE
namespace Go.Proofs.Ytmndgoapkmhglaa
open Go.RowKit
attribute [local go_sem ↓] Go.wp_at_zero Go.wp_at_succ

def digN (c : Nat) : Bool := decide (48 ≤ c) && decide (c ≤ 57)

set_option maxHeartbeats 400000 in
theorem digit_any (c : Nat) (w : World) : Calls Try.prog 48 #[.int .u8 (c : Int)] w fun e w' => e = .returned (.bool (digN c)) ∧ w = w' := by
  by_cases h1 : 48 ≤ c
  · have q1 : (48 : Int) ≤ (c : Int) := by omega
    by_cases h2 : c ≤ 57
    · have q2 : (c : Int) ≤ 57 := by omega
      have HF : Hid (digN c = true) := hide (by unfold digN; simp [h1, h2])
      clear h1 h2
      go_enter Try.func48, Try.ntmps48
      go_wp2
      go_ret
      exact ⟨by rw [HF.out]; rfl, rfl⟩
    · have q2 : ¬ (c : Int) ≤ 57 := by omega
      have HF : Hid (digN c = false) := hide (by unfold digN; simp [h2])
      clear h1 h2
      go_enter Try.func48, Try.ntmps48
      go_wp2
      go_ret
      exact ⟨by rw [HF.out]; rfl, rfl⟩
  · have q1 : ¬ (48 : Int) ≤ (c : Int) := by omega
    have HF : Hid (digN c = false) := hide (by unfold digN; simp [h1])
    clear h1
    go_enter Try.func48, Try.ntmps48
    go_wp2
    go_ret
    exact ⟨by rw [HF.out]; rfl, rfl⟩

/-- one byte further. -/
theorem bareR_at {l : List UInt8} {k : Nat} (h : k < l.length) (b : Bool) : bareR b (l.drop k) =
    if blankU (l[k]'h) then bareR (b && digU (l[k]'h)) (l.drop (k + 1)) else if decide ((l[k]'h).toNat = 48) && !(b && digU (l[k]'h)) && moreU (l.drop (k + 1)) then bareR (b && digU (l[k]'h)) (l.drop (k + 1)) else (l[k]'h) :: bareR (digU (l[k]'h)) (l.drop (k + 1)) := by
  rw [List.drop_eq_getElem_cons h, bareR]
theorem moreU_at {l : List UInt8} {k : Nat} (h : k < l.length) : moreU (l.drop k) = digU (l[k]'h) := by
  rw [List.drop_eq_getElem_cons h]; rfl
theorem moreU_end {l : List UInt8} {k : Nat} (h : l.length ≤ k) : moreU (l.drop k) = false := by
  rw [List.drop_of_length_le h]; rfl

set_option maxHeartbeats 8000000 in
set_option maxRecDepth 100000 in
theorem bare_any (s : ByteArray) (w : World) (hs : s.size ≤ 3000000) :
    Calls Try.prog 17 #[.string s] w fun e w' => e = .returned (.string ⟨(bareR false s.data.toList).toArray⟩) ∧ Below w.heap.size w w' := by
  obtain ⟨i0, hi0, hz0, hz1, hz2⟩ := info_parts Try.infoU8
  have hlen : s.data.toList.length = s.size := Array.length_toList
  go_enter Try.func17, Try.ntmps17
  go_wp2_with fail
  go_loopw [3, 4, 5] (fun v t i wr => ∃ (k : Nat) (L : List UInt8) (b : Bool), k ≤ s.size ∧ i = .int .i64 k ∧ t = .bool b ∧ L.length ≤ k ∧ L ++ bareR b (s.data.toList.drop k) = bareR false s.data.toList ∧ wr.ownsRow w.heap.size 5 1 v L.length (bCells L) ∧ Below w.heap.size w wr) (fun _ _ i _ => s.size - (intOf i).toNat)
  case atStart => exact ⟨0, [], false, Nat.zero_le _, rfl, rfl, by simp, by simp, World.ownsRow_nil _ _ _ _, Below.refl _ _⟩
  case round =>
    obtain ⟨k, L, b, hk, rfl, rfl, hLl, hrec, hown, hbel⟩ := hrel
    have hbs := hbel.size
    by_cases hlt : k < s.size
    · have eb := byt_eq s k hlt
      have hb2 := byt_list s k (by omega)
      have hat := bareR_at (l := s.data.toList) (k := k) (by omega) b
      have hb1 : bCells [s.data.toList[k]'(by omega)] = [.int .u8 (byt s k : Int)] := by rw [hb2]; rfl
      have hdU : digU (s.data.toList[k]'(by omega)) = digN (byt s k) := by rw [hb2]; rfl
      have hbU : blankU (s.data.toList[k]'(by omega)) = (decide (byt s k = 32) || decide (byt s k = 10)) := by rw [hb2]; rfl
      have hm0 : s.size ≤ k + 1 → moreU (s.data.toList.drop (k + 1)) = false := fun h => moreU_end (by omega)
      have hm1 : ∀ h : k + 1 < s.size, moreU (s.data.toList.drop (k + 1)) = digN (byt s (k + 1)) := fun h => by
        rw [moreU_at (by omega), byt_list s (k + 1) (by omega)]; rfl
      rw [hdU, hbU, ← hb2] at hat
      generalize s.data.toList[k]'(by omega) = c at hb1 hat
      rw [hat] at hrec
      have HB1 := hide hb1
      have j1 : (0 : Int) ≤ (k : Int) := by omega
      have j2 : (k : Int) < (s.size : Int) := by omega
      clear hat hb1 hb2 hdU hbU hlen
      by_cases hc32 : byt s k = 32
      · have q32 : ((byt s k : Int) == 32) = true := by rw [hc32]; rfl
        have hd : digN (byt s k) = false := by rw [hc32]; rfl
        have HR : Hid (L ++ bareR false (s.data.toList.drop (k + 1)) = bareR false s.data.toList) := hide (by
          rw [hd] at hrec
          rw [← hrec, if_pos (by simp [hc32]), Bool.and_false])
        clear hrec hm0 hm1 hc32
        go_wp2_with (go_at_call 48; refine (digit_any _ _).mono ?_; rintro e2 w2 ⟨rfl, hw2⟩; subst hw2)
        go_roundw
        case rel => exact ⟨k + 1, L, false, by omega, by go_num, rfl, by omega, HR.out, hown, hbel⟩
        case measure => simp [intOf]; omega
      by_cases hc10 : byt s k = 10
      · have q32 : ((byt s k : Int) == 32) = false := by rw [hc10]; rfl
        have q10 : ((byt s k : Int) == 10) = true := by rw [hc10]; rfl
        have hd : digN (byt s k) = false := by rw [hc10]; rfl
        have HR : Hid (L ++ bareR false (s.data.toList.drop (k + 1)) = bareR false s.data.toList) := hide (by
          rw [hd] at hrec
          rw [← hrec, if_pos (by simp [hc10]), Bool.and_false])
        clear hrec hm0 hm1 hc32 hc10
        go_wp2_with (go_at_call 48; refine (digit_any _ _).mono ?_; rintro e2 w2 ⟨rfl, hw2⟩; subst hw2)
        go_roundw
        case rel => exact ⟨k + 1, L, false, by omega, by go_num, rfl, by omega, HR.out, hown, hbel⟩
        case measure => simp [intOf]; omega
      have q32 : ((byt s k : Int) == 32) = false := by rw [beq_eq_false_iff_ne]; omega
      have q10 : ((byt s k : Int) == 10) = false := by rw [beq_eq_false_iff_ne]; omega
      rw [if_neg (by simp [hc32, hc10])] at hrec
      clear hc32 hc10
      obtain ⟨m, hm⟩ : ∃ m, m = moreU (s.data.toList.drop (k + 1)) := ⟨_, rfl⟩
      rw [← hm] at hrec hm0 hm1
      clear hm
      cases hd : digN (byt s k) with
      | false =>
        have q48 : ((byt s k : Int) == 48) = false := by
          rw [beq_eq_false_iff_ne]
          intro e
          have e2 : byt s k = 48 := by omega
          rw [e2] at hd
          cases hd
        have h48 : byt s k ≠ 48 := by
          intro e
          rw [e] at hd
          cases hd
        rw [hd] at hrec
        by_cases hk1 : k + 1 < s.size
        · have eb1 := byt_eq s (k + 1) hk1
          have k1 : (k : Int) + 1 < (s.size : Int) := by omega
          have k2 : (0 : Int) ≤ (k : Int) + 1 := by omega
          replace hm1 := hm1 hk1
          cases hd1 : digN (byt s (k + 1)) with
          | true =>
            rw [hm1, hd1] at hrec
            have HR : Hid ((L ++ [c]) ++ bareR false (s.data.toList.drop (k + 1)) = bareR false s.data.toList) := hide (by rw [← hrec, if_neg (by simp [h48])]; simp)
            clear hrec hm0 hm1
            clear h48
            go_wp2_with (first
              | (go_at_call 48; refine (digit_any _ _).mono ?_; rintro e2 w2 ⟨rfl, hw2⟩; subst hw2)
              | (at_builtin; refine wpList_append_lies _ rfl _ _ _ rfl w.heap.size 5 i0 _ 1 1 Try.underlying89 hi0 hz0 hz1 hz2 rfl (by omega) _ L.length (bCells L) rfl (hown.alloc _) ⟨wr.heap.size, 0, none⟩ 1 1 [.int .u8 (byt s k : Int)] rfl rfl (World.news_of_block (cs := #[.int .u8 (byt s k : Int)]) (t := 5) (fr := (0, 0)) (heap_alloc_new wr _)) (by simp [Value.oneCell']) (by omega) (by unfold maxLen; omega) (by omega) (by simp; omega) (wr.heap.size + 1) (by simp) ?_; intro g3 cap3 w3 hown3 hgrow hat hlt3))
            go_roundw
            case rel =>
              refine ⟨k + 1, L ++ [c], false, by omega, by go_num, rfl, by simp; omega, HR.out, ?_, ?_⟩
              · rw [bCells_app, HB1.out, List.length_append]
                exact hown3
              · exact ((hbel.alloc hbel.size _)).grown hgrow (by simp; omega) (fun j hj => ownBlock_ge hown j hj)
            case measure => simp [intOf]; omega
          | false =>
            rw [hm1, hd1] at hrec
            have HR : Hid ((L ++ [c]) ++ bareR false (s.data.toList.drop (k + 1)) = bareR false s.data.toList) := hide (by rw [← hrec, if_neg (by simp [h48])]; simp)
            clear hrec hm0 hm1
            clear h48
            go_wp2_with (first
              | (go_at_call 48; refine (digit_any _ _).mono ?_; rintro e2 w2 ⟨rfl, hw2⟩; subst hw2)
              | (at_builtin; refine wpList_append_lies _ rfl _ _ _ rfl w.heap.size 5 i0 _ 1 1 Try.underlying89 hi0 hz0 hz1 hz2 rfl (by omega) _ L.length (bCells L) rfl (hown.alloc _) ⟨wr.heap.size, 0, none⟩ 1 1 [.int .u8 (byt s k : Int)] rfl rfl (World.news_of_block (cs := #[.int .u8 (byt s k : Int)]) (t := 5) (fr := (0, 0)) (heap_alloc_new wr _)) (by simp [Value.oneCell']) (by omega) (by unfold maxLen; omega) (by omega) (by simp; omega) (wr.heap.size + 1) (by simp) ?_; intro g3 cap3 w3 hown3 hgrow hat hlt3))
            go_roundw
            case rel =>
              refine ⟨k + 1, L ++ [c], false, by omega, by go_num, rfl, by simp; omega, HR.out, ?_, ?_⟩
              · rw [bCells_app, HB1.out, List.length_append]
                exact hown3
              · exact ((hbel.alloc hbel.size _)).grown hgrow (by simp; omega) (fun j hj => ownBlock_ge hown j hj)
            case measure => simp [intOf]; omega
        · have k1 : ¬ (k : Int) + 1 < (s.size : Int) := by omega
          rw [hm0 (by omega)] at hrec
          have HR : Hid ((L ++ [c]) ++ bareR false (s.data.toList.drop (k + 1)) = bareR false s.data.toList) := hide (by rw [← hrec, if_neg (by simp [h48])]; simp)
          clear hrec hm0 hm1
          clear h48
          go_wp2_with (first
            | (go_at_call 48; refine (digit_any _ _).mono ?_; rintro e2 w2 ⟨rfl, hw2⟩; subst hw2)
            | (at_builtin; refine wpList_append_lies _ rfl _ _ _ rfl w.heap.size 5 i0 _ 1 1 Try.underlying89 hi0 hz0 hz1 hz2 rfl (by omega) _ L.length (bCells L) rfl (hown.alloc _) ⟨wr.heap.size, 0, none⟩ 1 1 [.int .u8 (byt s k : Int)] rfl rfl (World.news_of_block (cs := #[.int .u8 (byt s k : Int)]) (t := 5) (fr := (0, 0)) (heap_alloc_new wr _)) (by simp [Value.oneCell']) (by omega) (by unfold maxLen; omega) (by omega) (by simp; omega) (wr.heap.size + 1) (by simp) ?_; intro g3 cap3 w3 hown3 hgrow hat hlt3))
          go_roundw
          case rel =>
            refine ⟨k + 1, L ++ [c], false, by omega, by go_num, rfl, by simp; omega, HR.out, ?_, ?_⟩
            · rw [bCells_app, HB1.out, List.length_append]
              exact hown3
            · exact ((hbel.alloc hbel.size _)).grown hgrow (by simp; omega) (fun j hj => ownBlock_ge hown j hj)
          case measure => simp [intOf]; omega
      | true =>
        rw [hd] at hrec
        by_cases h48 : byt s k = 48
        · have q48 : ((byt s k : Int) == 48) = true := by rw [h48]; rfl
          cases b with
          | true =>
            by_cases hk1 : k + 1 < s.size
            · have eb1 := byt_eq s (k + 1) hk1
              have k1 : (k : Int) + 1 < (s.size : Int) := by omega
              have k2 : (0 : Int) ≤ (k : Int) + 1 := by omega
              replace hm1 := hm1 hk1
              cases hd1 : digN (byt s (k + 1)) with
              | true =>
                rw [hm1, hd1] at hrec
                have HR : Hid ((L ++ [c]) ++ bareR true (s.data.toList.drop (k + 1)) = bareR false s.data.toList) := hide (by rw [← hrec, if_neg (by simp)]; simp)
                clear hrec hm0 hm1
                clear h48
                go_wp2_with (first
                  | (go_at_call 48; refine (digit_any _ _).mono ?_; rintro e2 w2 ⟨rfl, hw2⟩; subst hw2)
                  | (at_builtin; refine wpList_append_lies _ rfl _ _ _ rfl w.heap.size 5 i0 _ 1 1 Try.underlying89 hi0 hz0 hz1 hz2 rfl (by omega) _ L.length (bCells L) rfl (hown.alloc _) ⟨wr.heap.size, 0, none⟩ 1 1 [.int .u8 (byt s k : Int)] rfl rfl (World.news_of_block (cs := #[.int .u8 (byt s k : Int)]) (t := 5) (fr := (0, 0)) (heap_alloc_new wr _)) (by simp [Value.oneCell']) (by omega) (by unfold maxLen; omega) (by omega) (by simp; omega) (wr.heap.size + 1) (by simp) ?_; intro g3 cap3 w3 hown3 hgrow hat hlt3))
                go_roundw
                case rel =>
                  refine ⟨k + 1, L ++ [c], true, by omega, by go_num, rfl, by simp; omega, HR.out, ?_, ?_⟩
                  · rw [bCells_app, HB1.out, List.length_append]
                    exact hown3
                  · exact ((hbel.alloc hbel.size _)).grown hgrow (by simp; omega) (fun j hj => ownBlock_ge hown j hj)
                case measure => simp [intOf]; omega
              | false =>
                rw [hm1, hd1] at hrec
                have HR : Hid ((L ++ [c]) ++ bareR true (s.data.toList.drop (k + 1)) = bareR false s.data.toList) := hide (by rw [← hrec, if_neg (by simp)]; simp)
                clear hrec hm0 hm1
                clear h48
                go_wp2_with (first
                  | (go_at_call 48; refine (digit_any _ _).mono ?_; rintro e2 w2 ⟨rfl, hw2⟩; subst hw2)
                  | (at_builtin; refine wpList_append_lies _ rfl _ _ _ rfl w.heap.size 5 i0 _ 1 1 Try.underlying89 hi0 hz0 hz1 hz2 rfl (by omega) _ L.length (bCells L) rfl (hown.alloc _) ⟨wr.heap.size, 0, none⟩ 1 1 [.int .u8 (byt s k : Int)] rfl rfl (World.news_of_block (cs := #[.int .u8 (byt s k : Int)]) (t := 5) (fr := (0, 0)) (heap_alloc_new wr _)) (by simp [Value.oneCell']) (by omega) (by unfold maxLen; omega) (by omega) (by simp; omega) (wr.heap.size + 1) (by simp) ?_; intro g3 cap3 w3 hown3 hgrow hat hlt3))
                go_roundw
                case rel =>
                  refine ⟨k + 1, L ++ [c], true, by omega, by go_num, rfl, by simp; omega, HR.out, ?_, ?_⟩
                  · rw [bCells_app, HB1.out, List.length_append]
                    exact hown3
                  · exact ((hbel.alloc hbel.size _)).grown hgrow (by simp; omega) (fun j hj => ownBlock_ge hown j hj)
                case measure => simp [intOf]; omega
            · have k1 : ¬ (k : Int) + 1 < (s.size : Int) := by omega
              rw [hm0 (by omega)] at hrec
              have HR : Hid ((L ++ [c]) ++ bareR true (s.data.toList.drop (k + 1)) = bareR false s.data.toList) := hide (by rw [← hrec, if_neg (by simp)]; simp)
              clear hrec hm0 hm1
              clear h48
              go_wp2_with (first
                | (go_at_call 48; refine (digit_any _ _).mono ?_; rintro e2 w2 ⟨rfl, hw2⟩; subst hw2)
                | (at_builtin; refine wpList_append_lies _ rfl _ _ _ rfl w.heap.size 5 i0 _ 1 1 Try.underlying89 hi0 hz0 hz1 hz2 rfl (by omega) _ L.length (bCells L) rfl (hown.alloc _) ⟨wr.heap.size, 0, none⟩ 1 1 [.int .u8 (byt s k : Int)] rfl rfl (World.news_of_block (cs := #[.int .u8 (byt s k : Int)]) (t := 5) (fr := (0, 0)) (heap_alloc_new wr _)) (by simp [Value.oneCell']) (by omega) (by unfold maxLen; omega) (by omega) (by simp; omega) (wr.heap.size + 1) (by simp) ?_; intro g3 cap3 w3 hown3 hgrow hat hlt3))
              go_roundw
              case rel =>
                refine ⟨k + 1, L ++ [c], true, by omega, by go_num, rfl, by simp; omega, HR.out, ?_, ?_⟩
                · rw [bCells_app, HB1.out, List.length_append]
                  exact hown3
                · exact ((hbel.alloc hbel.size _)).grown hgrow (by simp; omega) (fun j hj => ownBlock_ge hown j hj)
              case measure => simp [intOf]; omega
          | false =>
            by_cases hk1 : k + 1 < s.size
            · have eb1 := byt_eq s (k + 1) hk1
              have k1 : (k : Int) + 1 < (s.size : Int) := by omega
              have k2 : (0 : Int) ≤ (k : Int) + 1 := by omega
              replace hm1 := hm1 hk1
              cases hd1 : digN (byt s (k + 1)) with
              | true =>
                rw [hm1, hd1] at hrec
                have HR : Hid (L ++ bareR false (s.data.toList.drop (k + 1)) = bareR false s.data.toList) := hide (by rw [← hrec, if_pos (by simp [h48])]; rfl)
                clear hrec hm0 hm1
                clear h48
                go_wp2_with (go_at_call 48; refine (digit_any _ _).mono ?_; rintro e2 w2 ⟨rfl, hw2⟩; subst hw2)
                go_roundw
                case rel => exact ⟨k + 1, L, false, by omega, by go_num, rfl, by omega, HR.out, hown, hbel⟩
                case measure => simp [intOf]; omega
              | false =>
                rw [hm1, hd1] at hrec
                have HR : Hid ((L ++ [c]) ++ bareR true (s.data.toList.drop (k + 1)) = bareR false s.data.toList) := hide (by rw [← hrec, if_neg (by simp)]; simp)
                clear hrec hm0 hm1
                clear h48
                go_wp2_with (first
                  | (go_at_call 48; refine (digit_any _ _).mono ?_; rintro e2 w2 ⟨rfl, hw2⟩; subst hw2)
                  | (at_builtin; refine wpList_append_lies _ rfl _ _ _ rfl w.heap.size 5 i0 _ 1 1 Try.underlying89 hi0 hz0 hz1 hz2 rfl (by omega) _ L.length (bCells L) rfl (hown.alloc _) ⟨wr.heap.size, 0, none⟩ 1 1 [.int .u8 (byt s k : Int)] rfl rfl (World.news_of_block (cs := #[.int .u8 (byt s k : Int)]) (t := 5) (fr := (0, 0)) (heap_alloc_new wr _)) (by simp [Value.oneCell']) (by omega) (by unfold maxLen; omega) (by omega) (by simp; omega) (wr.heap.size + 1) (by simp) ?_; intro g3 cap3 w3 hown3 hgrow hat hlt3))
                go_roundw
                case rel =>
                  refine ⟨k + 1, L ++ [c], true, by omega, by go_num, rfl, by simp; omega, HR.out, ?_, ?_⟩
                  · rw [bCells_app, HB1.out, List.length_append]
                    exact hown3
                  · exact ((hbel.alloc hbel.size _)).grown hgrow (by simp; omega) (fun j hj => ownBlock_ge hown j hj)
                case measure => simp [intOf]; omega
            · have k1 : ¬ (k : Int) + 1 < (s.size : Int) := by omega
              rw [hm0 (by omega)] at hrec
              have HR : Hid ((L ++ [c]) ++ bareR true (s.data.toList.drop (k + 1)) = bareR false s.data.toList) := hide (by rw [← hrec, if_neg (by simp)]; simp)
              clear hrec hm0 hm1
              clear h48
              go_wp2_with (first
                | (go_at_call 48; refine (digit_any _ _).mono ?_; rintro e2 w2 ⟨rfl, hw2⟩; subst hw2)
                | (at_builtin; refine wpList_append_lies _ rfl _ _ _ rfl w.heap.size 5 i0 _ 1 1 Try.underlying89 hi0 hz0 hz1 hz2 rfl (by omega) _ L.length (bCells L) rfl (hown.alloc _) ⟨wr.heap.size, 0, none⟩ 1 1 [.int .u8 (byt s k : Int)] rfl rfl (World.news_of_block (cs := #[.int .u8 (byt s k : Int)]) (t := 5) (fr := (0, 0)) (heap_alloc_new wr _)) (by simp [Value.oneCell']) (by omega) (by unfold maxLen; omega) (by omega) (by simp; omega) (wr.heap.size + 1) (by simp) ?_; intro g3 cap3 w3 hown3 hgrow hat hlt3))
              go_roundw
              case rel =>
                refine ⟨k + 1, L ++ [c], true, by omega, by go_num, rfl, by simp; omega, HR.out, ?_, ?_⟩
                · rw [bCells_app, HB1.out, List.length_append]
                  exact hown3
                · exact ((hbel.alloc hbel.size _)).grown hgrow (by simp; omega) (fun j hj => ownBlock_ge hown j hj)
              case measure => simp [intOf]; omega
        · have q48 : ((byt s k : Int) == 48) = false := by rw [beq_eq_false_iff_ne]; omega
          by_cases hk1 : k + 1 < s.size
          · have eb1 := byt_eq s (k + 1) hk1
            have k1 : (k : Int) + 1 < (s.size : Int) := by omega
            have k2 : (0 : Int) ≤ (k : Int) + 1 := by omega
            replace hm1 := hm1 hk1
            cases hd1 : digN (byt s (k + 1)) with
            | true =>
              rw [hm1, hd1] at hrec
              have HR : Hid ((L ++ [c]) ++ bareR true (s.data.toList.drop (k + 1)) = bareR false s.data.toList) := hide (by rw [← hrec, if_neg (by simp [h48])]; simp)
              clear hrec hm0 hm1
              clear h48
              go_wp2_with (first
                | (go_at_call 48; refine (digit_any _ _).mono ?_; rintro e2 w2 ⟨rfl, hw2⟩; subst hw2)
                | (at_builtin; refine wpList_append_lies _ rfl _ _ _ rfl w.heap.size 5 i0 _ 1 1 Try.underlying89 hi0 hz0 hz1 hz2 rfl (by omega) _ L.length (bCells L) rfl (hown.alloc _) ⟨wr.heap.size, 0, none⟩ 1 1 [.int .u8 (byt s k : Int)] rfl rfl (World.news_of_block (cs := #[.int .u8 (byt s k : Int)]) (t := 5) (fr := (0, 0)) (heap_alloc_new wr _)) (by simp [Value.oneCell']) (by omega) (by unfold maxLen; omega) (by omega) (by simp; omega) (wr.heap.size + 1) (by simp) ?_; intro g3 cap3 w3 hown3 hgrow hat hlt3))
              go_roundw
              case rel =>
                refine ⟨k + 1, L ++ [c], true, by omega, by go_num, rfl, by simp; omega, HR.out, ?_, ?_⟩
                · rw [bCells_app, HB1.out, List.length_append]
                  exact hown3
                · exact ((hbel.alloc hbel.size _)).grown hgrow (by simp; omega) (fun j hj => ownBlock_ge hown j hj)
              case measure => simp [intOf]; omega
            | false =>
              rw [hm1, hd1] at hrec
              have HR : Hid ((L ++ [c]) ++ bareR true (s.data.toList.drop (k + 1)) = bareR false s.data.toList) := hide (by rw [← hrec, if_neg (by simp [h48])]; simp)
              clear hrec hm0 hm1
              clear h48
              go_wp2_with (first
                | (go_at_call 48; refine (digit_any _ _).mono ?_; rintro e2 w2 ⟨rfl, hw2⟩; subst hw2)
                | (at_builtin; refine wpList_append_lies _ rfl _ _ _ rfl w.heap.size 5 i0 _ 1 1 Try.underlying89 hi0 hz0 hz1 hz2 rfl (by omega) _ L.length (bCells L) rfl (hown.alloc _) ⟨wr.heap.size, 0, none⟩ 1 1 [.int .u8 (byt s k : Int)] rfl rfl (World.news_of_block (cs := #[.int .u8 (byt s k : Int)]) (t := 5) (fr := (0, 0)) (heap_alloc_new wr _)) (by simp [Value.oneCell']) (by omega) (by unfold maxLen; omega) (by omega) (by simp; omega) (wr.heap.size + 1) (by simp) ?_; intro g3 cap3 w3 hown3 hgrow hat hlt3))
              go_roundw
              case rel =>
                refine ⟨k + 1, L ++ [c], true, by omega, by go_num, rfl, by simp; omega, HR.out, ?_, ?_⟩
                · rw [bCells_app, HB1.out, List.length_append]
                  exact hown3
                · exact ((hbel.alloc hbel.size _)).grown hgrow (by simp; omega) (fun j hj => ownBlock_ge hown j hj)
              case measure => simp [intOf]; omega
          · have k1 : ¬ (k : Int) + 1 < (s.size : Int) := by omega
            rw [hm0 (by omega)] at hrec
            have HR : Hid ((L ++ [c]) ++ bareR true (s.data.toList.drop (k + 1)) = bareR false s.data.toList) := hide (by rw [← hrec, if_neg (by simp [h48])]; simp)
            clear hrec hm0 hm1
            clear h48
            go_wp2_with (first
              | (go_at_call 48; refine (digit_any _ _).mono ?_; rintro e2 w2 ⟨rfl, hw2⟩; subst hw2)
              | (at_builtin; refine wpList_append_lies _ rfl _ _ _ rfl w.heap.size 5 i0 _ 1 1 Try.underlying89 hi0 hz0 hz1 hz2 rfl (by omega) _ L.length (bCells L) rfl (hown.alloc _) ⟨wr.heap.size, 0, none⟩ 1 1 [.int .u8 (byt s k : Int)] rfl rfl (World.news_of_block (cs := #[.int .u8 (byt s k : Int)]) (t := 5) (fr := (0, 0)) (heap_alloc_new wr _)) (by simp [Value.oneCell']) (by omega) (by unfold maxLen; omega) (by omega) (by simp; omega) (wr.heap.size + 1) (by simp) ?_; intro g3 cap3 w3 hown3 hgrow hat hlt3))
            go_roundw
            case rel =>
              refine ⟨k + 1, L ++ [c], true, by omega, by go_num, rfl, by simp; omega, HR.out, ?_, ?_⟩
              · rw [bCells_app, HB1.out, List.length_append]
                exact hown3
              · exact ((hbel.alloc hbel.size _)).grown hgrow (by simp; omega) (fun j hj => ownBlock_ge hown j hj)
            case measure => simp [intOf]; omega
    · have hfin : L = bareR false s.data.toList := by
        rw [← hrec, List.drop_of_length_le (by omega)]
        simp [bareR]
      have hcv := convert_own (P := Try.prog) (src := 89) (dst := 9) Try.underlying89 Try.underlying5 Try.underlying9 hown
      have HF := hide hfin
      clear hfin hrec hlen
      go_wp2
      go_ret
      refine ⟨?_, hbel⟩
      rw [← HF.out]
      rfl

end Go.Proofs.Ytmndgoapkmhglaa

namespace Go.Proofs.Ytmndgoapkmhglaa
open Go.RowKit
attribute [local go_sem ↓] Go.wp_at_zero Go.wp_at_succ

theorem outF_size (s : ByteArray) (hs : s.size ≤ 1500) : (outF s).size ≤ 3000000 := by
  have h1 := out_len s hs (toks s).length
  have h2 := (toks_ok s hs).1
  have h3 : (outF s).size = (outN (toks s) (toks s).length).length := size_mk _
  rw [h3]
  have h4 : (toks s).length * 1501 ≤ 1501 * 1501 := Nat.mul_le_mul_right _ h2
  omega

set_option maxHeartbeats 4000000 in
set_option maxRecDepth 100000 in
theorem reprinted_any (s : ByteArray) (w : World) (hs : s.size ≤ maxLen) :
    Calls Try.prog 4 #[.string s] w fun e w' => e = .returned (.bool true) ∧ Below w.heap.size w w' := by
  have c1 := fun w => check_all s w hs
  have pr1 := fun w => print_any s w hs
  by_cases he : (textF s).1 = 0
  · have hsz := text_short he
    have hos := outF_size s hsz
    have b1 := fun w => bare_any s w (by omega)
    have b2 := fun w => bare_any (outF s) w hos
    rw [out_bare s hsz he] at b2
    have hpf : printF s = outF s := by unfold printF; rw [if_pos he]
    rw [hpf, he] at pr1
    rw [he] at c1
    have c2 := fun w => check_all (outF s) w (by unfold maxLen; omega)
    have pr2 := fun w => print_any (outF s) w (by unfold maxLen; omega)
    have ho : (outF s).size ≤ 1500 → (textF (outF s)).1 = 0 ∧ printF (outF s) = outF s := fun h => by
      have h0 : (textF (outF s)).1 = 0 := (out_text s hsz h).trans he
      exact ⟨h0, by unfold printF; rw [if_pos h0, out_out]⟩
    obtain ⟨O, hO⟩ : ∃ O, O = outF s := ⟨_, rfl⟩
    rw [← hO] at b2 pr1 c2 pr2 ho hos
    obtain ⟨x1, hx1⟩ : ∃ x, x = (textF s).2 := ⟨_, rfl⟩
    rw [← hx1] at c1
    clear hO hpf he hx1
    by_cases hl : O.size ≤ 1500
    · obtain ⟨h0, hp⟩ := ho hl
      rw [h0] at c2
      rw [hp, h0] at pr2
      have q1 : ¬ (1500 : Int) < (O.size : Int) := by omega
      obtain ⟨y1, hy1⟩ : ∃ x, x = (textF O).2 := ⟨_, rfl⟩
      rw [← hy1] at c2
      clear ho hp h0 hl hy1
      go_enter Try.func4, Try.ntmps4
      go_wp2_with fail
      refine (answers_any _).mono ?_
      rintro e w1 ⟨rfl, hb1⟩
      go_wp2_with fail
      refine (c1 _).mono ?_
      rintro e w2 ⟨rfl, hb2⟩
      have hB2 : Below w.heap.size w w2 := hb1.trans (hb2.mono hb1.size)
      clear hb1 hb2 c1
      go_wp2_with fail
      refine (pr1 _).mono ?_
      rintro e w3 ⟨rfl, hb3⟩
      have hB3 : Below w.heap.size w w3 := hB2.trans (hb3.mono hB2.size)
      clear hB2 hb3 pr1
      go_wp2_with fail
      refine (b1 _).mono ?_
      rintro e w4 ⟨rfl, hb4⟩
      have hB4 : Below w.heap.size w w4 := hB3.trans (hb4.mono hB3.size)
      clear hB3 hb4 b1
      go_wp2_with fail
      refine (b2 _).mono ?_
      rintro e w5 ⟨rfl, hb5⟩
      have hB5 : Below w.heap.size w w5 := hB4.trans (hb5.mono hB4.size)
      clear hB4 hb5 b2
      go_wp2_with fail
      refine (c2 _).mono ?_
      rintro e w6 ⟨rfl, hb6⟩
      have hB6 : Below w.heap.size w w6 := hB5.trans (hb6.mono hB5.size)
      clear hB5 hb6 c2
      go_wp2_with fail
      refine (pr2 _).mono ?_
      rintro e w7 ⟨rfl, hb7⟩
      have hB7 : Below w.heap.size w w7 := hB6.trans (hb7.mono hB6.size)
      clear hB6 hb7 pr2
      go_wp2_with fail
      go_ret
      exact ⟨rfl, hB7⟩
    · have q1 : (1500 : Int) < (O.size : Int) := by omega
      clear ho hl c2 pr2
      go_enter Try.func4, Try.ntmps4
      go_wp2_with fail
      refine (answers_any _).mono ?_
      rintro e w1 ⟨rfl, hb1⟩
      go_wp2_with fail
      refine (c1 _).mono ?_
      rintro e w2 ⟨rfl, hb2⟩
      have hB2 : Below w.heap.size w w2 := hb1.trans (hb2.mono hb1.size)
      clear hb1 hb2 c1
      go_wp2_with fail
      refine (pr1 _).mono ?_
      rintro e w3 ⟨rfl, hb3⟩
      have hB3 : Below w.heap.size w w3 := hB2.trans (hb3.mono hB2.size)
      clear hB2 hb3 pr1
      go_wp2_with fail
      refine (b1 _).mono ?_
      rintro e w4 ⟨rfl, hb4⟩
      have hB4 : Below w.heap.size w w4 := hB3.trans (hb4.mono hB3.size)
      clear hB3 hb4 b1
      go_wp2_with fail
      refine (b2 _).mono ?_
      rintro e w5 ⟨rfl, hb5⟩
      have hB5 : Below w.heap.size w w5 := hB4.trans (hb5.mono hB4.size)
      clear hB4 hb5 b2
      go_wp2_with fail
      go_ret
      exact ⟨rfl, hB5⟩
  · have hpf : printF s = ⟨#[]⟩ := by unfold printF; rw [if_neg he]
    rw [hpf] at pr1
    have q1 : (((textF s).1 : Int) != 0) = true := by rw [bne_iff_ne]; omega
    obtain ⟨x0, hx0⟩ : ∃ x, x = (textF s).1 := ⟨_, rfl⟩
    rw [← hx0] at c1 pr1 q1
    clear hpf he hx0
    go_enter Try.func4, Try.ntmps4
    go_wp2_with fail
    refine (answers_any _).mono ?_
    rintro e w1 ⟨rfl, hb1⟩
    go_wp2_with fail
    refine (c1 _).mono ?_
    rintro e w2 ⟨rfl, hb2⟩
    have hB2 : Below w.heap.size w w2 := hb1.trans (hb2.mono hb1.size)
    clear hb1 hb2 c1
    go_wp2_with fail
    refine (pr1 _).mono ?_
    rintro e w3 ⟨rfl, hb3⟩
    have hB3 : Below w.heap.size w w3 := hB2.trans (hb3.mono hB2.size)
    clear hB2 hb3 pr1
    go_wp2_with fail
    go_ret
    exact ⟨rfl, hB3⟩

end Go.Proofs.Ytmndgoapkmhglaa
