import Derived.Test.YtmndgoapkmhglaaM12JudN
import Derived.Test.YtmndgoapkmhglaaM20LayN
import Derived.Test.YtmndgoapkmhglaaM39LayD
namespace Go.Proofs.Ytmndgoapkmhglaa
open Go.RowKit
attribute [local go_sem ↓] Go.wp_at_zero Go.wp_at_succ
attribute [local go_sem] Try.fieldTok0 Try.fieldTok1 Try.fieldTok2

def sgnN (c : Nat) : Bool := c == 40 || c == 41 || c == 59 || c == 61
theorem sgn_nat (c : UInt8) : sgn c = sgnN c.toNat := by
  have h : ∀ d : UInt8, (c == d) = (c.toNat == d.toNat) := by
    intro d
    rw [Bool.eq_iff_iff]
    simp [UInt8.toNat_inj]
  unfold sgn sgnN
  rw [h, h, h, h]
  rfl

set_option maxHeartbeats 400000 in
theorem sign_any (c : Nat) (w : World) : Calls Try.prog 49 #[.int .u8 (c : Int)] w fun e w' => e = .returned (.bool (sgnN c)) ∧ w = w' := by
  by_cases h1 : c = 40
  · have HF : Hid (sgnN c = true) := hide (by rw [h1]; rfl)
    have q1 : ((c : Int) == 40) = true := by rw [h1]; rfl
    clear h1
    go_enter Try.func49, Try.ntmps49
    go_wp2
    go_ret
    exact ⟨by rw [HF.out]; rfl, rfl⟩
  have q1 : ((c : Int) == 40) = false := by rw [beq_eq_false_iff_ne]; omega
  by_cases h2 : c = 41
  · have HF : Hid (sgnN c = true) := hide (by rw [h2]; rfl)
    have q2 : ((c : Int) == 41) = true := by rw [h2]; rfl
    clear h1 h2
    go_enter Try.func49, Try.ntmps49
    go_wp2
    go_ret
    exact ⟨by rw [HF.out]; rfl, rfl⟩
  have q2 : ((c : Int) == 41) = false := by rw [beq_eq_false_iff_ne]; omega
  by_cases h3 : c = 59
  · have HF : Hid (sgnN c = true) := hide (by rw [h3]; rfl)
    have q3 : ((c : Int) == 59) = true := by rw [h3]; rfl
    clear h1 h2 h3
    go_enter Try.func49, Try.ntmps49
    go_wp2
    go_ret
    exact ⟨by rw [HF.out]; rfl, rfl⟩
  have q3 : ((c : Int) == 59) = false := by rw [beq_eq_false_iff_ne]; omega
  by_cases h4 : c = 61
  · have HF : Hid (sgnN c = true) := hide (by rw [h4]; rfl)
    have q4 : ((c : Int) == 61) = true := by rw [h4]; rfl
    clear h1 h2 h3 h4
    go_enter Try.func49, Try.ntmps49
    go_wp2
    go_ret
    exact ⟨by rw [HF.out]; rfl, rfl⟩
  have q4 : ((c : Int) == 61) = false := by rw [beq_eq_false_iff_ne]; omega
  have HF : Hid (sgnN c = false) := hide (by simp [sgnN, h1, h2, h3, h4])
  clear h1 h2 h3 h4
  go_enter Try.func49, Try.ntmps49
  go_wp2
  go_ret
  exact ⟨by rw [HF.out]; rfl, rfl⟩

/-- where the last ; stands, among the first bytes. -/
def lastN (s : ByteArray) : Nat → Int
  | 0 => -1
  | k + 1 => if byt s k = 59 then (k : Int) else lastN s k

set_option maxHeartbeats 400000 in
theorem last_any (s : ByteArray) (w : World) (hs : s.size ≤ maxLen) : Calls Try.prog 19 #[.string s] w fun e w' => e = .returned (.int .i64 (lastN s s.size)) ∧ w = w' := by
  unfold maxLen at hs
  go_enter Try.func19, Try.ntmps19
  go_wp2
  go_loop [3, 4] (fun a i => ∃ j : Nat, j ≤ s.size ∧ i = .int .i64 j ∧ a = .int .i64 (lastN s j)) (fun _ i => s.size - (intOf i).toNat)
  case atStart => exact ⟨0, Nat.zero_le _, rfl, rfl⟩
  case round =>
    obtain ⟨j, hj, rfl, rfl⟩ := hrel
    by_cases hlt : j < s.size
    · have eb := byt_eq s j hlt
      by_cases hb : byt s j = 59
      · have q1 : ((byt s j : Int) == 59) = true := by rw [hb]; rfl
        have HL : Hid (lastN s (j + 1) = (j : Int)) := hide (by unfold lastN; rw [if_pos hb])
        clear hb
        go_wp2
        go_round
        case rel => exact ⟨j + 1, by omega, by go_num, by rw [HL.out]⟩
        case measure => simp [intOf]; omega
      · have q1 : ((byt s j : Int) == 59) = false := by rw [beq_eq_false_iff_ne]; omega
        have HL : Hid (lastN s (j + 1) = lastN s j) := hide (by rw [lastN, if_neg hb])
        clear hb
        go_wp2
        go_round
        case rel => exact ⟨j + 1, by omega, by go_num, by rw [HL.out]⟩
        case measure => simp [intOf]; omega
    · have ej : j = s.size := by omega
      have HE := hide ej
      clear ej
      go_wp2
      go_ret
      exact ⟨by rw [HE.out]; rfl, rfl⟩

end Go.Proofs.Ytmndgoapkmhglaa

namespace Go.Proofs.Ytmndgoapkmhglaa
open Go.RowKit
attribute [local go_sem ↓] Go.wp_at_zero Go.wp_at_succ

theorem byt_list (s : ByteArray) (k : Nat) (h : k < s.data.toList.length) : byt s k = (s.data.toList[k]'h).toNat := by
  unfold byt; rw [List.getD_eq_getElem?_getD, List.getElem?_eq_getElem h]; rfl

theorem wide_yes {l : List UInt8} {k : Nat} (h : k < l.length) (hs : sgn (l[k]'h) = true) : wideL k (l.drop k) = [l[k]'h, gapB k] ++ wideL (k + 1) (l.drop (k + 1)) := by
  rw [List.drop_eq_getElem_cons h, wideL_cons, if_pos hs]; rfl
theorem wide_no {l : List UInt8} {k : Nat} (h : k < l.length) (hs : sgn (l[k]'h) = false) : wideL k (l.drop k) = [l[k]'h] ++ wideL (k + 1) (l.drop (k + 1)) := by
  rw [List.drop_eq_getElem_cons h, wideL_cons, if_neg (by rw [hs]; decide)]; rfl

/-- where a place has gone, by the first k bytes. -/
def mvK (l : List UInt8) (a k : Nat) : Nat := a + ((l.take (min k a)).filter sgn).length
theorem mvK_step {l : List UInt8} {a k : Nat} (h : k < l.length) : mvK l a (k + 1) = mvK l a k + (if k < a ∧ sgn (l[k]'h) = true then 1 else 0) := by
  unfold mvK
  by_cases ha : k < a
  · rw [show min (k + 1) a = k + 1 by omega, show min k a = k by omega, List.take_succ_eq_append_getElem h, List.filter_append, List.length_append]
    by_cases hs : sgn (l[k]'h) = true
    · rw [if_pos ⟨ha, hs⟩]; simp [hs]; omega
    · rw [if_neg (fun x => hs x.2)]; simp [hs]
  · rw [show min (k + 1) a = a by omega, show min k a = a by omega, if_neg (fun x => ha x.1)]; rfl
theorem mvK_end (l : List UInt8) (a : Nat) : mvK l a l.length = mv l a := by
  unfold mvK mv
  congr 3
  rcases Nat.le_total l.length a with h | h
  · rw [Nat.min_eq_left h, List.take_length, List.take_of_length_le h]
  · rw [Nat.min_eq_right h]
theorem mvK_le (l : List UInt8) (a k : Nat) : mvK l a k ≤ a + l.length := by
  unfold mvK
  have := List.length_filter_le sgn (l.take (min k a))
  rw [List.length_take] at this
  omega

set_option maxHeartbeats 2000000 in
set_option maxRecDepth 100000 in
theorem wide_any (s : ByteArray) (a : Nat) (w : World) (hs : s.size ≤ 1500) (ha : a ≤ 1500) :
    Calls Try.prog 18 #[.string s, .int .i64 (a : Int)] w fun e w' => e = .returned (.tuple #[.string (wideS s), .int .i64 (mv s.data.toList a : Int)]) ∧ Below w.heap.size w w' := by
  obtain ⟨i0, hi0, hz0, hz1, hz2⟩ := info_parts Try.infoU8
  have hlen : s.data.toList.length = s.size := Array.length_toList
  go_enter Try.func18, Try.ntmps18
  go_wp2_with fail
  go_loopw [6, 7, 8] (fun v t i wr => ∃ (k : Nat) (L : List UInt8), k ≤ s.size ∧ i = .int .i64 k ∧ t = .int .i64 (mvK s.data.toList a k : Nat) ∧ L.length ≤ 2 * k ∧ L ++ wideL k (s.data.toList.drop k) = wideL 0 s.data.toList ∧ wr.ownsRow w.heap.size 5 1 v L.length (bCells L) ∧ Below w.heap.size w wr) (fun _ _ i _ => s.size - (intOf i).toNat)
  case atStart => exact ⟨0, [], Nat.zero_le _, rfl, by simp [mvK], by simp, by simp, World.ownsRow_nil _ _ _ _, Below.refl _ _⟩
  case round =>
    obtain ⟨k, L, hk, rfl, rfl, hLl, hrec, hown, hbel⟩ := hrel
    have hbs := hbel.size
    have hml := mvK_le s.data.toList a k
    rw [hlen] at hml
    by_cases hlt : k < s.size
    · have eb := byt_eq s k hlt
      have hb2 := byt_list s k (by omega)
      have hsg := sgn_nat (s.data.toList[k]'(by omega))
      rw [← hb2] at hsg
      have hms := mvK_step (l := s.data.toList) (a := a) (k := k) (by omega)
      have hb1 : bCells [s.data.toList[k]'(by omega)] = [.int .u8 (byt s k : Int)] := by rw [hb2]; rfl
      have j1 : (0 : Int) ≤ (k : Int) := by omega
      have j2 : (k : Int) < (s.size : Int) := by omega
      by_cases hsn : sgnN (byt s k) = true
      · have hw := wide_yes (l := s.data.toList) (k := k) (by omega) (by rw [hsg]; exact hsn)
        have HW : Hid ((L ++ [s.data.toList[k]'(by omega)] ++ [gapB k]) ++ wideL (k + 1) (s.data.toList.drop (k + 1)) = wideL 0 s.data.toList) := hide (by rw [← hrec, hw]; simp)
        have hsg' : sgn (s.data.toList[k]'(by omega)) = true := by rw [hsg]; exact hsn
        generalize s.data.toList[k]'(by omega) = c at hb1 HW hsg' hms
        rw [hsg'] at hms
        have HB1 := hide hb1
        clear hw hrec hb1 hb2 hsg hsg' hlen
        by_cases hp : k % 2 = 0
        · have p1 : ((k : Int) % 2 == 0) = true := by rw [beq_iff_eq]; omega
          have HG : Hid (bCells [gapB k] = [.int .u8 32]) := hide (by unfold gapB; rw [if_pos hp]; rfl)
          clear hp
          by_cases hka : k < a
          · have p2 : (k : Int) < (a : Int) := by omega
            have HM : Hid (mvK s.data.toList a (k + 1) = mvK s.data.toList a k + 1) := hide (by rw [hms]; simp [hka])
            clear hka hms
            go_wp2_with (first
              | (go_at_call 49; refine (sign_any _ _).mono ?_; rintro e2 w2 ⟨rfl, hw2⟩; subst hw2)
              | (at_builtin; refine wpList_append_lies _ rfl _ _ _ rfl w.heap.size 5 i0 _ 1 1 Try.underlying89 hi0 hz0 hz1 hz2 rfl (by omega) _ (L.length + 1) (bCells L ++ [.int .u8 (byt s k : Int)]) rfl (hown3.alloc _) ⟨w3.heap.size, 0, none⟩ 1 1 [.int .u8 32] rfl rfl (World.news_of_block (cs := #[.int .u8 32]) (t := 5) (fr := (0, 0)) (heap_alloc_new w3 _)) (by simp [Value.oneCell']) (by omega) (by unfold maxLen; omega) (by omega) (by have := hgrow.size; simp at this ⊢; omega) (w3.heap.size + 1) (by simp) ?_; intro g5 cap5 w5 hown5 hgrow5 hat5 hlt5)
              | (at_builtin; refine wpList_append_lies _ rfl _ _ _ rfl w.heap.size 5 i0 _ 1 1 Try.underlying89 hi0 hz0 hz1 hz2 rfl (by omega) _ L.length (bCells L) rfl (hown.alloc _) ⟨wr.heap.size, 0, none⟩ 1 1 [.int .u8 (byt s k : Int)] rfl rfl (World.news_of_block (cs := #[.int .u8 (byt s k : Int)]) (t := 5) (fr := (0, 0)) (heap_alloc_new wr _)) (by simp [Value.oneCell']) (by omega) (by unfold maxLen; omega) (by omega) (by simp; omega) (wr.heap.size + 1) (by simp) ?_; intro g3 cap3 w3 hown3 hgrow hat hlt3))
            go_roundw
            case rel =>
              refine ⟨k + 1, L ++ [c] ++ [gapB k], by omega, by go_num, by rw [HM.out]; go_num, by simp; omega, HW.out, ?_, ?_⟩
              · rw [bCells_app, bCells_app, HB1.out, HG.out, List.length_append, List.length_append]
                exact hown5
              · exact ((((hbel.alloc hbel.size _)).grown hgrow (by simp; omega) (fun j hj => ownBlock_ge hown j hj)).alloc (by have := hgrow.size; simp at this ⊢; omega) _).grown hgrow5 (by have := hgrow.size; simp at this ⊢; omega) (fun j hj => ownBlock_ge hown3 j hj)
            case measure => simp [intOf]; omega
          · have p2 : ¬ (k : Int) < (a : Int) := by omega
            have HM : Hid (mvK s.data.toList a (k + 1) = mvK s.data.toList a k) := hide (by rw [hms]; simp [hka])
            clear hka hms
            go_wp2_with (first
              | (go_at_call 49; refine (sign_any _ _).mono ?_; rintro e2 w2 ⟨rfl, hw2⟩; subst hw2)
              | (at_builtin; refine wpList_append_lies _ rfl _ _ _ rfl w.heap.size 5 i0 _ 1 1 Try.underlying89 hi0 hz0 hz1 hz2 rfl (by omega) _ (L.length + 1) (bCells L ++ [.int .u8 (byt s k : Int)]) rfl (hown3.alloc _) ⟨w3.heap.size, 0, none⟩ 1 1 [.int .u8 32] rfl rfl (World.news_of_block (cs := #[.int .u8 32]) (t := 5) (fr := (0, 0)) (heap_alloc_new w3 _)) (by simp [Value.oneCell']) (by omega) (by unfold maxLen; omega) (by omega) (by have := hgrow.size; simp at this ⊢; omega) (w3.heap.size + 1) (by simp) ?_; intro g5 cap5 w5 hown5 hgrow5 hat5 hlt5)
              | (at_builtin; refine wpList_append_lies _ rfl _ _ _ rfl w.heap.size 5 i0 _ 1 1 Try.underlying89 hi0 hz0 hz1 hz2 rfl (by omega) _ L.length (bCells L) rfl (hown.alloc _) ⟨wr.heap.size, 0, none⟩ 1 1 [.int .u8 (byt s k : Int)] rfl rfl (World.news_of_block (cs := #[.int .u8 (byt s k : Int)]) (t := 5) (fr := (0, 0)) (heap_alloc_new wr _)) (by simp [Value.oneCell']) (by omega) (by unfold maxLen; omega) (by omega) (by simp; omega) (wr.heap.size + 1) (by simp) ?_; intro g3 cap3 w3 hown3 hgrow hat hlt3))
            go_roundw
            case rel =>
              refine ⟨k + 1, L ++ [c] ++ [gapB k], by omega, by go_num, by rw [HM.out], by simp; omega, HW.out, ?_, ?_⟩
              · rw [bCells_app, bCells_app, HB1.out, HG.out, List.length_append, List.length_append]
                exact hown5
              · exact ((((hbel.alloc hbel.size _)).grown hgrow (by simp; omega) (fun j hj => ownBlock_ge hown j hj)).alloc (by have := hgrow.size; simp at this ⊢; omega) _).grown hgrow5 (by have := hgrow.size; simp at this ⊢; omega) (fun j hj => ownBlock_ge hown3 j hj)
            case measure => simp [intOf]; omega
        · have p1 : ((k : Int) % 2 == 0) = false := by rw [beq_eq_false_iff_ne]; omega
          have HG : Hid (bCells [gapB k] = [.int .u8 10]) := hide (by unfold gapB; rw [if_neg hp]; rfl)
          clear hp
          by_cases hka : k < a
          · have p2 : (k : Int) < (a : Int) := by omega
            have HM : Hid (mvK s.data.toList a (k + 1) = mvK s.data.toList a k + 1) := hide (by rw [hms]; simp [hka])
            clear hka hms
            go_wp2_with (first
              | (go_at_call 49; refine (sign_any _ _).mono ?_; rintro e2 w2 ⟨rfl, hw2⟩; subst hw2)
              | (at_builtin; refine wpList_append_lies _ rfl _ _ _ rfl w.heap.size 5 i0 _ 1 1 Try.underlying89 hi0 hz0 hz1 hz2 rfl (by omega) _ (L.length + 1) (bCells L ++ [.int .u8 (byt s k : Int)]) rfl (hown3.alloc _) ⟨w3.heap.size, 0, none⟩ 1 1 [.int .u8 10] rfl rfl (World.news_of_block (cs := #[.int .u8 10]) (t := 5) (fr := (0, 0)) (heap_alloc_new w3 _)) (by simp [Value.oneCell']) (by omega) (by unfold maxLen; omega) (by omega) (by have := hgrow.size; simp at this ⊢; omega) (w3.heap.size + 1) (by simp) ?_; intro g5 cap5 w5 hown5 hgrow5 hat5 hlt5)
              | (at_builtin; refine wpList_append_lies _ rfl _ _ _ rfl w.heap.size 5 i0 _ 1 1 Try.underlying89 hi0 hz0 hz1 hz2 rfl (by omega) _ L.length (bCells L) rfl (hown.alloc _) ⟨wr.heap.size, 0, none⟩ 1 1 [.int .u8 (byt s k : Int)] rfl rfl (World.news_of_block (cs := #[.int .u8 (byt s k : Int)]) (t := 5) (fr := (0, 0)) (heap_alloc_new wr _)) (by simp [Value.oneCell']) (by omega) (by unfold maxLen; omega) (by omega) (by simp; omega) (wr.heap.size + 1) (by simp) ?_; intro g3 cap3 w3 hown3 hgrow hat hlt3))
            go_roundw
            case rel =>
              refine ⟨k + 1, L ++ [c] ++ [gapB k], by omega, by go_num, by rw [HM.out]; go_num, by simp; omega, HW.out, ?_, ?_⟩
              · rw [bCells_app, bCells_app, HB1.out, HG.out, List.length_append, List.length_append]
                exact hown5
              · exact ((((hbel.alloc hbel.size _)).grown hgrow (by simp; omega) (fun j hj => ownBlock_ge hown j hj)).alloc (by have := hgrow.size; simp at this ⊢; omega) _).grown hgrow5 (by have := hgrow.size; simp at this ⊢; omega) (fun j hj => ownBlock_ge hown3 j hj)
            case measure => simp [intOf]; omega
          · have p2 : ¬ (k : Int) < (a : Int) := by omega
            have HM : Hid (mvK s.data.toList a (k + 1) = mvK s.data.toList a k) := hide (by rw [hms]; simp [hka])
            clear hka hms
            go_wp2_with (first
              | (go_at_call 49; refine (sign_any _ _).mono ?_; rintro e2 w2 ⟨rfl, hw2⟩; subst hw2)
              | (at_builtin; refine wpList_append_lies _ rfl _ _ _ rfl w.heap.size 5 i0 _ 1 1 Try.underlying89 hi0 hz0 hz1 hz2 rfl (by omega) _ (L.length + 1) (bCells L ++ [.int .u8 (byt s k : Int)]) rfl (hown3.alloc _) ⟨w3.heap.size, 0, none⟩ 1 1 [.int .u8 10] rfl rfl (World.news_of_block (cs := #[.int .u8 10]) (t := 5) (fr := (0, 0)) (heap_alloc_new w3 _)) (by simp [Value.oneCell']) (by omega) (by unfold maxLen; omega) (by omega) (by have := hgrow.size; simp at this ⊢; omega) (w3.heap.size + 1) (by simp) ?_; intro g5 cap5 w5 hown5 hgrow5 hat5 hlt5)
              | (at_builtin; refine wpList_append_lies _ rfl _ _ _ rfl w.heap.size 5 i0 _ 1 1 Try.underlying89 hi0 hz0 hz1 hz2 rfl (by omega) _ L.length (bCells L) rfl (hown.alloc _) ⟨wr.heap.size, 0, none⟩ 1 1 [.int .u8 (byt s k : Int)] rfl rfl (World.news_of_block (cs := #[.int .u8 (byt s k : Int)]) (t := 5) (fr := (0, 0)) (heap_alloc_new wr _)) (by simp [Value.oneCell']) (by omega) (by unfold maxLen; omega) (by omega) (by simp; omega) (wr.heap.size + 1) (by simp) ?_; intro g3 cap3 w3 hown3 hgrow hat hlt3))
            go_roundw
            case rel =>
              refine ⟨k + 1, L ++ [c] ++ [gapB k], by omega, by go_num, by rw [HM.out], by simp; omega, HW.out, ?_, ?_⟩
              · rw [bCells_app, bCells_app, HB1.out, HG.out, List.length_append, List.length_append]
                exact hown5
              · exact ((((hbel.alloc hbel.size _)).grown hgrow (by simp; omega) (fun j hj => ownBlock_ge hown j hj)).alloc (by have := hgrow.size; simp at this ⊢; omega) _).grown hgrow5 (by have := hgrow.size; simp at this ⊢; omega) (fun j hj => ownBlock_ge hown3 j hj)
            case measure => simp [intOf]; omega
      · have hsn' : sgnN (byt s k) = false := by simpa using hsn
        have hw := wide_no (l := s.data.toList) (k := k) (by omega) (by rw [hsg]; exact hsn')
        have HW : Hid ((L ++ [s.data.toList[k]'(by omega)]) ++ wideL (k + 1) (s.data.toList.drop (k + 1)) = wideL 0 s.data.toList) := hide (by rw [← hrec, hw]; simp)
        have HM : Hid (mvK s.data.toList a (k + 1) = mvK s.data.toList a k) := hide (by rw [hms, hsg]; simp [hsn'])
        generalize s.data.toList[k]'(by omega) = c at hb1 HW hsg hms
        have HB1 := hide hb1
        clear hw hrec hb1 hb2 hsg hsn hlen hms
        go_wp2_with (first
          | (go_at_call 49; refine (sign_any _ _).mono ?_; rintro e2 w2 ⟨rfl, hw2⟩; subst hw2)
          | (at_builtin; refine wpList_append_lies _ rfl _ _ _ rfl w.heap.size 5 i0 _ 1 1 Try.underlying89 hi0 hz0 hz1 hz2 rfl (by omega) _ L.length (bCells L) rfl (hown.alloc _) ⟨wr.heap.size, 0, none⟩ 1 1 [.int .u8 (byt s k : Int)] rfl rfl (World.news_of_block (cs := #[.int .u8 (byt s k : Int)]) (t := 5) (fr := (0, 0)) (heap_alloc_new wr _)) (by simp [Value.oneCell']) (by omega) (by unfold maxLen; omega) (by omega) (by simp; omega) (wr.heap.size + 1) (by simp) ?_; intro g3 cap3 w3 hown3 hgrow hat hlt3))
        go_roundw
        case rel =>
          refine ⟨k + 1, L ++ [c], by omega, by go_num, by rw [HM.out], by simp; omega, HW.out, ?_, ?_⟩
          · rw [bCells_app, HB1.out, List.length_append]
            exact hown3
          · exact ((hbel.alloc hbel.size _)).grown hgrow (by simp; omega) (fun j hj => ownBlock_ge hown j hj)
        case measure => simp [intOf]; omega
    · have ek : k = s.size := by omega
      have hfin : L = wideL 0 s.data.toList := by
        rw [← hrec, List.drop_of_length_le (by omega)]
        simp [wideL]
      have hmk : mvK s.data.toList a k = mv s.data.toList a := by rw [ek, ← hlen]; exact mvK_end _ _
      have hcv := convert_own (P := Try.prog) (src := 89) (dst := 9) Try.underlying89 Try.underlying5 Try.underlying9 hown
      have HF := hide hfin
      have HMK := hide hmk
      clear ek hfin hmk hrec hlen
      go_wp2
      go_ret2
      refine ⟨?_, hbel⟩
      rw [← HMK.out]
      unfold wideS
      rw [← HF.out]
      rfl

end Go.Proofs.Ytmndgoapkmhglaa
