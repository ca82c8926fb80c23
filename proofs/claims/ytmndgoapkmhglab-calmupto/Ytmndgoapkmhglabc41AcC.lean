import Derived.Test.Ytmndgoapkmhglabc13JudA
import Derived.Test.Ytmndgoapkmhglabc21JudH
import Derived.Test.Ytmndgoapkmhglabc29PlyL
import Derived.Test.Ytmndgoapkmhglabc30RefI
import Derived.Test.Ytmndgoapkmhglabc31RefJ
import Derived.Test.Ytmndgoapkmhglabc40AcB
namespace Go.Proofs.Ytmndgoapkmhglab
open Go.RowKit
attribute [local go_sem ↓] Go.wp_at_zero Go.wp_at_succ

theorem drop_byt (s : ByteArray) (k : Nat) (h : k < s.size) : ∃ c : UInt8, s.data.toList.drop k = c :: s.data.toList.drop (k + 1) ∧ c.toNat = byt s k := by
  have hl := size_list s
  refine ⟨s.data.toList[k]'(by omega), List.drop_eq_getElem_cons (by omega), ?_⟩
  unfold byt
  rw [List.getD_eq_getElem?_getD, List.getElem?_eq_getElem (by omega)]
  rfl

def numB (s : ByteArray) (k : Nat) : Int := match numL k (s.data.toList.drop k) with
  | some v => (v : Int)
  | none => -1

theorem numB_skip (s : ByteArray) (k : Nat) (h : k < s.size) (hc : ¬ (48 ≤ byt s k ∧ byt s k ≤ 57)) : numB s k = numB s (k + 1) := by
  obtain ⟨c, hd, he⟩ := drop_byt s k h
  unfold numB
  rw [hd]
  have : W 2 c = false := by
    unfold W
    cases hw : (cls c.toNat == 2) with
    | false => rfl
    | true => have := cls_two (beq_iff_eq.1 hw); omega
  simp only [numL, this]
  rfl
theorem numB_end (s : ByteArray) (k : Nat) (h : s.size ≤ k) : numB s k = -1 := by
  have hl := size_list s
  unfold numB
  rw [List.drop_eq_nil_of_le (by omega)]
  rfl
theorem numB_dig (s : ByteArray) (k : Nat) (h : k < s.size) (hc : 48 ≤ byt s k ∧ byt s k ≤ 57) : numB s k = ((k + ((s.data.toList.drop (k + 1)).takeWhile (W 2)).length : Nat) : Int) := by
  obtain ⟨c, hd, he⟩ := drop_byt s k h
  unfold numB
  rw [hd]
  have : W 2 c = true := by unfold W; rw [he, cls_2 hc.1 hc.2]; rfl
  simp only [numL, this]
  rfl
theorem dig_more (s : ByteArray) (k : Nat) (h : k < s.size) (hc : 48 ≤ byt s k ∧ byt s k ≤ 57) : ((s.data.toList.drop k).takeWhile (W 2)).length = ((s.data.toList.drop (k + 1)).takeWhile (W 2)).length + 1 := by
  obtain ⟨c, hd, he⟩ := drop_byt s k h
  rw [hd, List.takeWhile_cons, if_pos (by unfold W; rw [he, cls_2 hc.1 hc.2]; rfl)]
  rfl
theorem dig_stop (s : ByteArray) (k : Nat) (hc : s.size ≤ k ∨ ¬ (48 ≤ byt s k ∧ byt s k ≤ 57)) : ((s.data.toList.drop k).takeWhile (W 2)).length = 0 := by
  by_cases h : k < s.size
  · obtain ⟨c, hd, he⟩ := drop_byt s k h
    have : W 2 c = false := by
      unfold W
      cases hw : (cls c.toNat == 2) with
      | false => rfl
      | true => have := cls_two (beq_iff_eq.1 hw); omega
    rw [hd, List.takeWhile_cons, this]
    rfl
  · have hl := size_list s
    rw [List.drop_eq_nil_of_le (by omega)]
    rfl

set_option maxHeartbeats 1000000 in
theorem number_any (s : ByteArray) (k0 : Nat) (w : World) (hs : s.size ≤ 1048576) (hk0 : k0 ≤ s.size) :
    Calls Try.prog 70 #[.string s, .int .i64 (k0 : Int)] w fun e w' => e = .returned (.int .i64 (numB s k0)) ∧ w = w' := by
  obtain ⟨R, hR⟩ : ∃ R, R = numB s k0 := ⟨_, rfl⟩
  rw [← hR]
  have HR := hide hR
  clear hR
  go_enter Try.func70, Try.ntmps70
  go_wp2
  go_loop [5] (fun v => ∃ k : Nat, k ≤ s.size ∧ v = .int .i64 k ∧ R = numB s k) (fun v => s.size - (intOf v).toNat)
  case atStart => exact ⟨k0, hk0, rfl, HR.out⟩
  case round =>
    obtain ⟨k, hk, rfl, hrk⟩ := hrel
    have HK := hide hrk
    clear hrk
    by_cases hlt : k < s.size
    · have eb := byt_eq s k hlt
      by_cases h1 : byt s k < 48
      · have HN : Hid (R = numB s (k + 1)) := hide (by rw [HK.out, numB_skip s k hlt (by omega)])
        have z1 : (byt s k : Int) < 48 := by omega
        clear h1
        go_wp2
        go_round
        case rel => exact ⟨k + 1, by omega, by go_num, HN.out⟩
        case measure => simp [intOf]; omega
      · by_cases h2 : 57 < byt s k
        · have HN : Hid (R = numB s (k + 1)) := hide (by rw [HK.out, numB_skip s k hlt (by omega)])
          have z1 : ¬ (byt s k : Int) < 48 := by omega
          have z2 : 57 < (byt s k : Int) := by omega
          clear h1 h2
          go_wp2
          go_round
          case rel => exact ⟨k + 1, by omega, by go_num, HN.out⟩
          case measure => simp [intOf]; omega
        · have z1 : ¬ (byt s k : Int) < 48 := by omega
          have z2 : ¬ 57 < (byt s k : Int) := by omega
          have HD : Hid (R = ((k + ((s.data.toList.drop (k + 1)).takeWhile (W 2)).length : Nat) : Int)) := hide (by rw [HK.out, numB_dig s k hlt (by omega)])
          clear h1 h2
          go_wp2
          go_loop [5] (fun v => ∃ m : Nat, m < s.size ∧ v = .int .i64 m ∧ R = ((m + ((s.data.toList.drop (m + 1)).takeWhile (W 2)).length : Nat) : Int)) (fun v => s.size - (intOf v).toNat)
          case atStart => exact ⟨k, hlt, rfl, HD.out⟩
          case round =>
            obtain ⟨m, hm, rfl, hrm⟩ := hrel
            have HM := hide hrm
            clear hrm z1 z2 eb
            by_cases hlt2 : m + 1 < s.size
            · have eb := byt_eq s (m + 1) hlt2
              have z0 : (m : Int) + 1 < (s.size : Int) := by omega
              by_cases h1 : byt s (m + 1) < 48
              · have HS := hide (dig_stop s (m + 1) (.inr (by omega)))
                have z1 : ¬ 48 ≤ (byt s (m + 1) : Int) := by omega
                clear h1
                go_wp2
                go_ret
                exact ⟨by rw [HM.out, HS.out]; rfl, rfl⟩
              · by_cases h2 : 57 < byt s (m + 1)
                · have HS := hide (dig_stop s (m + 1) (.inr (by omega)))
                  have z1 : 48 ≤ (byt s (m + 1) : Int) := by omega
                  have z2 : ¬ (byt s (m + 1) : Int) ≤ 57 := by omega
                  clear h1 h2
                  go_wp2
                  go_ret
                  exact ⟨by rw [HM.out, HS.out]; rfl, rfl⟩
                · have HS := hide (dig_more s (m + 1) hlt2 (by omega))
                  have z1 : 48 ≤ (byt s (m + 1) : Int) := by omega
                  have z2 : (byt s (m + 1) : Int) ≤ 57 := by omega
                  clear h1 h2
                  go_wp2
                  go_round
                  case rel => exact ⟨m + 1, by omega, by go_num, by rw [HM.out, HS.out]; omega⟩
                  case measure => simp [intOf]; omega
            · have HS := hide (dig_stop s (m + 1) (.inl (by omega)))
              have z0 : ¬ (m : Int) + 1 < (s.size : Int) := by omega
              go_wp2
              go_ret
              exact ⟨by rw [HM.out, HS.out]; rfl, rfl⟩
    · have HN : Hid (R = -1) := hide (by rw [HK.out, numB_end s k (by omega)])
      have ek : k = s.size := by omega
      have z0 : ¬ (k : Int) < (s.size : Int) := by omega
      clear ek
      go_wp2
      go_ret
      exact ⟨by rw [HN.out]; rfl, rfl⟩

end Go.Proofs.Ytmndgoapkmhglab

namespace Go.Proofs.Ytmndgoapkmhglab
open Go.RowKit
attribute [local go_sem ↓] Go.wp_at_zero Go.wp_at_succ

theorem phase_col (M : Mx) (k i : Nat) : phase M k i k = M i k := by unfold phase; cases h : M i k <;> simp
theorem midM_col (M : Mx) (k f m : Nat) : midM M k f m f k = M f k := by
  unfold midM
  split
  · exact phase_col M k f
  · rfl
theorem midM_put (M : Mx) (k f m : Nat) (v : Bool) (hv : v = phase M k f m) : upd (midM M k f m) f m v = midM M k f (m + 1) := by
  funext i j
  unfold upd midM
  by_cases e : i = f ∧ j = m
  · obtain ⟨rfl, rfl⟩ := e
    rw [if_pos ⟨rfl, rfl⟩, if_pos (.inr ⟨rfl, by omega⟩), hv]
  · rw [if_neg e]
    by_cases h : i < f ∨ (i = f ∧ j < m)
    · rw [if_pos h, if_pos (by omega)]
    · rw [if_neg h, if_neg (by omega)]

theorem RowsOnly.bel {w w' : World} {B n : Nat} {R : Nat → Nat} (h : RowsOnly w w' n R) (hR : ∀ i, i < n → B ≤ R i) : Below B w w' :=
  ⟨h.os, h.tape, h.output, by rw [h.size]; exact Nat.le_refl _, fun k hk => h.block k (fun i hi => by have := hR i hi; omega)⟩

set_option maxHeartbeats 2000000 in
set_option maxRecDepth 100000 in
theorem rcircles_any (w : World) (a : Option Addr) (g n cap B : Nat) (R : Nat → Nat) (M : Mx) (h : Mat w g n R M) (ha : 0 < n → a = some ⟨g, 0, none⟩) (hn : n ≤ 1501) (hB : B ≤ w.heap.size) (hR : ∀ i, i < n → B ≤ R i) :
    Calls Try.prog 95 #[.slice a n cap] w fun e w' => ∃ G, e = .returned (.slice (some ⟨G, 0, none⟩) n n) ∧ B ≤ G ∧ w'.rowIs G 4 n (fun i => .bool (warsh M n i i)) ∧ Below B w w' := by
  have hm2 := run_make_row' (P := Try.prog) 113 4 (.bool false) 1 Try.underlying113 Try.infoBool rfl .i64 .i64 n (by omega) (by omega)
  have HM := hide h
  have HA := hide ha
  have HR := hide hR
  clear h ha hR
  go_enter Try.func95, Try.ntmps95
  go_wp2
  go_loopw [4] (fun i wr => ∃ k : Nat, k ≤ n ∧ i = .int .i64 k ∧ Mat wr g n R (warsh M k) ∧ Below B w wr) (fun i _ => n - (intOf i).toNat)
  case atStart => exact ⟨0, Nat.zero_le _, rfl, HM.out, Below.refl _ _⟩
  case round =>
    clear HM
    obtain ⟨k, hk, rfl, hmat, hro⟩ := hrel
    by_cases hlt : k < n
    · have hag := HA.out (by omega)
      subst hag
      have HW : Hid (warsh M (k + 1) = phase (warsh M k) k) := hide rfl
      generalize warsh M k = Mk at *
      have HMAT := hide hmat
      have HRO := hide hro
      have j3 : (0 : Int) ≤ (k : Int) := by omega
      have j4 : (k : Int) < (n : Int) := by omega
      clear hmat hro
      go_wp2
      go_loopw [5] (fun i wr => ∃ f : Nat, f ≤ n ∧ i = .int .i64 f ∧ Mat wr g n R (midM Mk k f 0) ∧ Below B w wr) (fun i _ => n - (intOf i).toNat)
      case atStart => exact ⟨0, Nat.zero_le _, rfl, by rw [midM_zero]; exact HMAT.out, HRO.out⟩
      case round =>
        clear HMAT HRO
        obtain ⟨f, hf, rfl, hmat, hro⟩ := hrel
        by_cases hfl : f < n
        · have HMAT := hide hmat
          have HRO := hide hro
          have j1 : (0 : Int) ≤ (f : Int) := by omega
          have j2 : (f : Int) < (n : Int) := by omega
          clear hmat hro
          go_wp2
          go_loopw [6] (fun i wr => ∃ m : Nat, m ≤ n ∧ i = .int .i64 m ∧ Mat wr g n R (midM Mk k f m) ∧ Below B w wr) (fun i _ => n - (intOf i).toNat)
          case atStart => exact ⟨0, Nat.zero_le _, rfl, HMAT.out, HRO.out⟩
          case round =>
            clear HMAT HRO
            obtain ⟨m, hm, rfl, hmat, hro⟩ := hrel
            by_cases hml : m < n
            · have o1 := hmat.outer f hfl
              have o2 := hmat.outer k hlt
              have x2 := hmat.cell (i := k) (j := m) hlt hml
              rw [midM_between Mk k f m m (by omega)] at x2
              have x3 := hmat.cell (i := f) (j := m) hfl hml
              rw [midM_here Mk k f m m (by omega)] at x3
              have x4 := hmat.cell (i := f) (j := k) hfl hlt
              rw [midM_col] at x4
              have f3 := hmat.froz hfl m
              have HMAT := hide hmat
              have HRO := hide hro
              have j5 : (0 : Int) ≤ (m : Int) := by omega
              have j6 : (m : Int) < (n : Int) := by omega
              have HPH : Hid (phase Mk k f m = (Mk f m || (Mk f k && Mk k m))) := hide rfl
              have HBf := hide (HR.out f hfl)
              have HX : Hid (∀ (W : World) (V : Bool), Mat W g n R (midM Mk k f m) → V = phase Mk k f m → Mat (W.setCell ⟨R f, m, none⟩ (.bool V)) g n R (midM Mk k f (m + 1))) := hide (fun W V hW hV => by
                rw [← midM_put Mk k f m V hV]; exact hW.set hfl m V)
              clear hmat hro
              generalize hv1 : Mk f m = v1 at x3 HPH
              generalize hv2 : Mk f k = v2 at x4 HPH
              generalize hv3 : Mk k m = v3 at x2 HPH
              clear hv1 hv2 hv3
              have hc : v1 = true ∨ (v1 = false ∧ v2 = false) ∨ (v1 = false ∧ v2 = true) := by cases v1 <;> cases v2 <;> simp
              rcases hc with rfl | ⟨rfl, rfl⟩ | ⟨rfl, rfl⟩
              all_goals
                go_wp2_with fail
                go_big_region
                go_wp2
                go_roundw
                case rel =>
                  exact ⟨m + 1, by omega, by go_num, (HX.out _ _ HMAT.out (by rw [HPH.out]; rfl)).drew, (HRO.out.setCell HBf.out _).drew⟩
                case measure => simp [intOf]; omega
            · have HMAT := hide hmat
              have HRO := hide hro
              clear hmat hro
              go_wp2
              go_roundw
              case rel => exact ⟨f + 1, by omega, by go_num, HMAT.out.congr (midM_done Mk n k f m (by omega)), HRO.out⟩
              case measure => simp [intOf]; omega
        · have HMAT := hide hmat
          have HRO := hide hro
          clear hmat hro
          go_wp2
          go_roundw
          case rel => exact ⟨k + 1, by omega, by go_num, by rw [HW.out]; exact HMAT.out.congr (midM_all Mk n k f (by omega)), HRO.out⟩
          case measure => simp [intOf]; omega
    · have ek : k = n := by omega
      subst ek
      have HMAT := hide hmat
      have HRO := hide hro
      clear hmat hro
      go_wp2
      generalize hWM : warsh M k = WM at HMAT ⊢
      have hGB : B ≤ wr.heap.size := Nat.le_trans hB HRO.out.size
      have HGM : Hid (∀ i, i < k → R i ≠ wr.heap.size ∧ g ≠ wr.heap.size) := hide (fun i hi => ⟨by have := World.rowIs.lt (HMAT.out.rows i hi); omega, by have := HMAT.out.lt (by omega); omega⟩)
      obtain ⟨G, hG⟩ : ∃ G, G = wr.heap.size := ⟨_, rfl⟩
      rw [← hG] at HGM hGB ⊢
      have HR0 : Hid ((wr.alloc (.cells (madeCells #[.bool false] k) 4)).rowIs G 4 k (fun _ => .bool false)) := hide (by rw [hG]; exact World.rowIs_made wr (.bool false) k 4)
      have HRW : Hid (Below B w (wr.alloc (.cells (madeCells #[.bool false] k) 4))) := hide (HRO.out.alloc (Nat.le_trans hB HRO.out.size) _)
      have HMW := hide (HMAT.out.alloc (.cells (madeCells #[.bool false] k) 4))
      clear hG
      go_loopw [8] (fun i wx => ∃ m : Nat, m ≤ k ∧ i = .int .i64 m ∧ Mat wx g k R WM ∧ wx.rowIs G 4 k (fun i => if i < m then .bool (WM i i) else .bool false) ∧ Below B w wx) (fun i _ => k - (intOf i).toNat)
      case atStart => exact ⟨0, Nat.zero_le _, rfl, HMW.out, HR0.out.congr (fun i _ => by simp), HRW.out⟩
      case round =>
        clear HMAT HRO HRW HMW HR0
        obtain ⟨m, hm, rfl, hmat, hrow, hbel⟩ := hrel
        by_cases hml : m < k
        · have hag := HA.out (by omega)
          subst hag
          have o1 := hmat.outer m hml
          have x1 := hmat.cell hml hml
          have g1 := hrow.cell hml
          rw [if_neg (by omega)] at g1
          have g2 := hrow.frozen m
          have HMAT := hide hmat
          have HROW := hide hrow
          have j5 : (0 : Int) ≤ (m : Int) := by omega
          have j6 : (m : Int) < (k : Int) := by omega
          clear hmat hrow
          go_wp2
          go_roundw
          case rel =>
            refine ⟨m + 1, by omega, by go_num, HMAT.out.keep (heap_setCell_other wr ⟨G, m, none⟩ g _ (HGM.out m hml).2) (fun i hi => heap_setCell_other wr ⟨G, m, none⟩ (R i) _ (HGM.out i hi).1), ?_, hbel.setCell hGB _⟩
            refine (HROW.out.set m (.bool (WM m m))).congr (fun i hi => ?_)
            by_cases e : i = m
            · subst e; rw [if_pos rfl, if_pos (by omega)]
            · rw [if_neg e]
              by_cases h2 : i < m
              · rw [if_pos h2, if_pos (by omega)]
              · rw [if_neg h2, if_neg (by omega)]
          case measure => simp [intOf]; omega
        · have em : m = k := by omega
          subst em
          have HROW := hide hrow
          clear hmat hrow
          go_wp2
          go_ret
          subst hWM
          refine ⟨G, rfl, hGB, ?_, hbel⟩
          exact HROW.out.congr (fun i hi => by rw [if_pos hi])

end Go.Proofs.Ytmndgoapkmhglab

namespace Go.Proofs.Ytmndgoapkmhglab
open Go.RowKit
attribute [local go_sem ↓] Go.wp_at_zero Go.wp_at_succ

def rowSl (n : Nat) (rs : List Nat) : List Value := rs.map fun r => Value.slice (some ⟨r, 0, none⟩) n n
theorem rowSl_snoc (n : Nat) (rs : List Nat) (r : Nat) : rowSl n (rs ++ [r]) = rowSl n rs ++ [.slice (some ⟨r, 0, none⟩) n n] := by simp [rowSl]

set_option maxHeartbeats 1000000 in
set_option maxRecDepth 100000 in
theorem rsquare_any (w : World) (n : Nat) (hn : n ≤ 1501) :
    Calls Try.prog 65 #[.int .i64 (n : Int)] w fun e w' => ∃ (v : Value) (rs : List Nat), e = .returned v ∧ rs.length = n ∧ w'.ownsRow w.heap.size 113 1 v n (rowSl n rs) ∧
      (∀ r ∈ rs, w.heap.size ≤ r ∧ v.ownBlock ≠ some r ∧ w'.rowIs r 4 n (fun _ => .bool false)) ∧ rs.Nodup ∧ Below w.heap.size w w' := by
  obtain ⟨i0, hi0, hz0, hz1, hz2⟩ := info_parts Try.infoBools
  have hm2 := run_make_row' (P := Try.prog) 113 4 (.bool false) 1 Try.underlying113 Try.infoBool rfl .i64 .i64 n (by omega) (by omega)
  go_enter Try.func65, Try.ntmps65
  go_wp2
  go_loopw [3, 4] (fun v i wr => ∃ (k : Nat) (rs : List Nat), k ≤ n ∧ i = .int .i64 k ∧ rs.length = k ∧ wr.ownsRow w.heap.size 113 1 v k (rowSl n rs) ∧
      (∀ r ∈ rs, w.heap.size ≤ r ∧ v.ownBlock ≠ some r ∧ wr.rowIs r 4 n (fun _ => .bool false)) ∧ rs.Nodup ∧ Below w.heap.size w wr) (fun _ i _ => n - (intOf i).toNat)
  case atStart => exact ⟨0, [], Nat.zero_le _, rfl, rfl, World.ownsRow_nil _ _ _ _, fun r hr => by simp at hr, List.nodup_nil, Below.refl _ _⟩
  case round =>
    obtain ⟨k, rs, hk, rfl, hrl, hown, hrows, hnd, hbel⟩ := hrel
    have HRL := hide hrl
    have HRW := hide hrows
    have HND := hide hnd
    have hbs := hbel.size
    clear hrl hrows hnd
    by_cases hlt : k < n
    · have HOV := hide hown.lt
      go_wp2_with (at_builtin; refine wpList_append_lies _ rfl _ _ _ rfl w.heap.size 113 i0 _ 1 24 Try.underlying79 hi0 hz0 hz1 hz2 rfl (by omega) _ k (rowSl n rs) rfl ((hown.alloc _).alloc _) ⟨wr.heap.size + 1, 0, none⟩ 1 1 [.slice (some ⟨wr.heap.size, 0, none⟩) n n] rfl rfl (World.news_of_block (cs := #[.slice (some ⟨wr.heap.size, 0, none⟩) n n]) (t := 113) (fr := (0, 0)) (by have := heap_alloc_new (wr.alloc (.cells (madeCells #[.bool false] n) 4)) (.cells #[.slice (some ⟨wr.heap.size, 0, none⟩) n n] 113); simpa using this)) (by simp [Value.oneCell']) (by omega) (by unfold maxLen; omega) (by omega) (by simp; omega) (wr.heap.size + 2) (by simp) ?_; intro gg cap2 w3 hown3 hgrow hat hlt3)
      go_roundw
      case rel =>
        have hsz3 := hgrow.size
        simp at hsz3
        have hnr : ∀ r ∈ rs, r < wr.heap.size := fun r hr => World.rowIs.lt (HRW.out r hr).2.2
        refine ⟨k + 1, rs ++ [wr.heap.size], by omega, by go_num, by rw [List.length_append, HRL.out]; rfl, ?_, ?_, ?_, ?_⟩
        · rw [rowSl_snoc]; exact hown3
        · intro r hr
          rcases List.mem_append.1 hr with hr | hr
          · obtain ⟨h1, h2, h3⟩ := HRW.out r hr
            have hrl := hnr r hr
            refine ⟨h1, ?_, ?_⟩
            · intro e
              have e' : gg = r := by simpa [Value.ownBlock] using e
              rcases hat with hat | hat
              · rw [e'] at hat; exact h2 hat
              · omega
            · refine World.rowIs.of_block ((h3.alloc _).alloc _) (hgrow.block r (by simp; omega) (fun e => h2 e.symm))
          · rw [List.mem_singleton] at hr
            subst hr
            refine ⟨hbs, ?_, ?_⟩
            · intro e
              have e' : gg = wr.heap.size := by simpa [Value.ownBlock] using e
              rcases hat with hat | hat
              · rw [e'] at hat; have := (HOV.out _ hat).2; omega
              · omega
            · refine World.rowIs.of_block ((World.rowIs_made wr (.bool false) n 4).alloc _) (hgrow.block wr.heap.size (by simp; omega) (fun e => by have := (HOV.out _ e.symm).2; omega))
        · rw [List.nodup_append]
          refine ⟨HND.out, by simp, fun a ha b hb => ?_⟩
          rw [List.mem_singleton] at hb
          have := hnr a ha
          omega
        · exact ((hbel.alloc hbel.size _).alloc (by simp; omega) _).grown hgrow (by simp; omega) (fun j hj => ownBlock_ge hown j hj)
      case measure => simp [intOf]; omega
    · have ek : k = n := by omega
      subst ek
      have HO := hide hown
      clear hown
      go_wp2
      go_ret
      exact ⟨_, rs, rfl, HRL.out, HO.out, HRW.out, HND.out, hbel⟩

theorem square_mat {w' : World} {B n : Nat} {v : Value} {rs : List Nat} (hl : rs.length = n) (hown : w'.ownsRow B 113 1 v n (rowSl n rs)) (hrows : ∀ r ∈ rs, B ≤ r ∧ v.ownBlock ≠ some r ∧ w'.rowIs r 4 n (fun _ => .bool false)) (hnd : rs.Nodup) :
    ∃ (a : Option Addr) (g cap : Nat) (R : Nat → Nat), v = .slice a n cap ∧ (0 < n → a = some ⟨g, 0, none⟩) ∧ Mat w' g n R noM ∧ (∀ i, i < n → B ≤ R i) ∧ B ≤ g := by
  rcases Nat.eq_zero_or_pos n with hz | hp
  · obtain ⟨a, cap, hv, _⟩ := own_shape hown
    refine ⟨a, B, cap, fun _ => 0, hv, fun h => by omega, ⟨fun i hi => by omega, fun i hi => by omega, fun i j hi => by omega, fun i hi => by omega⟩, fun i hi => by omega, Nat.le_refl _⟩
  · obtain ⟨g, cap, rfl, h1, h2⟩ := hown.form hp
    have hat : ∀ i, (hi : i < n) → rs[i]'(by omega) ∈ rs := fun i hi => List.getElem_mem _
    refine ⟨some ⟨g, 0, none⟩, g, cap, fun i => rs.getD i 0, rfl, fun _ => rfl, ⟨fun i hi => ?_, fun i hi => ?_, fun i j hi hj e => ?_, fun i hi e => ?_⟩, fun i hi => ?_, h1⟩
    · rw [hown.cellAt i (by omega)]
      unfold rowSl
      rw [List.getElem?_map, List.getElem?_eq_getElem (by omega)]
      show some _ = some (Value.slice (some ⟨rs.getD i 0, 0, none⟩) n n)
      rw [List.getD_eq_getElem?_getD, List.getElem?_eq_getElem (by omega)]
      rfl
    · show w'.rowIs (rs.getD i 0) _ _ _
      rw [List.getD_eq_getElem?_getD, List.getElem?_eq_getElem (by omega)]
      exact (hrows _ (hat i hi)).2.2
    · have e' : rs.getD i 0 = rs.getD j 0 := e
      rw [List.getD_eq_getElem?_getD, List.getD_eq_getElem?_getD, List.getElem?_eq_getElem (show i < rs.length by omega), List.getElem?_eq_getElem (show j < rs.length by omega)] at e'
      have e2 : rs[i]'(by omega) = rs[j]'(by omega) := e'
      rcases Nat.lt_trichotomy i j with hh | hh | hh
      · exact absurd e2 ((List.pairwise_iff_getElem.1 hnd) i j (by omega) (by omega) hh)
      · exact hh
      · exact absurd e2.symm ((List.pairwise_iff_getElem.1 hnd) j i (by omega) (by omega) hh)
    · have e' : rs.getD i 0 = g := e
      rw [List.getD_eq_getElem?_getD, List.getElem?_eq_getElem (show i < rs.length by omega)] at e'
      have e2 : rs[i]'(by omega) = g := e'
      exact (hrows _ (hat i hi)).2.1 (by rw [e2]; rfl)
    · show B ≤ rs.getD i 0
      rw [List.getD_eq_getElem?_getD, List.getElem?_eq_getElem (by omega)]
      exact (hrows _ (hat i hi)).1

end Go.Proofs.Ytmndgoapkmhglab

/- the program's acts: Keep. -/
namespace Go.Proofs.Ytmndgoapkmhglab
open Go.RowKit
attribute [local go_sem ↓] Go.wp_at_zero Go.wp_at_succ

set_option maxHeartbeats 4000000 in
set_option maxRecDepth 100000 in
theorem pkeep_any (w : World) (v : Value) (sc : List OpF) (h : OpsAt w v sc) (bd : BdF) (ht : ∀ i, i < sc.length → 0 ≤ (actF sc i).a ∧ (actF sc i).a ≤ 1099511627776) :
    Calls Try.prog 50 #[v, bd.val] w fun e w' => e = .returned (.bool (keepP bd sc)) ∧ Below w.heap.size w w' := by
  have HS := hide h
  have HT := hide ht
  obtain ⟨A, C, rfl, hm, hc⟩ := h
  have HA := hide hc
  have HKD : Hid (∀ i, keepA bd sc i = (bothB (actF sc i) bd.dmin bd.dmax && match aheadP sc i with | none => decide ((actF sc i).a ≤ bd.tmax) | some k => inB ((actF sc i).a - (actF sc k).a) bd.tmin bd.tmax)) := hide fun i => rfl
  have HKP : Hid (keepP bd sc = (List.range sc.length).all (keepA bd sc)) := hide rfl
  have HBV : Hid (bd.val = .agg #[.int .i64 bd.tmin, .int .i64 bd.tmax, .int .i64 bd.dmin, .int .i64 bd.dmax]) := hide rfl
  obtain ⟨t0, t1, d0, d1⟩ := bd
  obtain ⟨b0, hb0⟩ : ∃ b0, b0 = w.alloc (.cells #[.int .i64 t0, .int .i64 t1, .int .i64 d0, .int .i64 d1] 23) := ⟨_, rfl⟩
  have HW0 : Hid (Below w.heap.size w b0) := hide (by rw [hb0]; exact (Below.refl _ _).alloc (Nat.le_refl _) _)
  have HC : Hid (∀ W : World, Below b0.heap.size b0 W → W.cell? ⟨w.heap.size, 0, none⟩ = some (.int .i64 t0) ∧ W.cell? ⟨w.heap.size, 1, none⟩ = some (.int .i64 t1) ∧ W.cell? ⟨w.heap.size, 2, none⟩ = some (.int .i64 d0) ∧ W.cell? ⟨w.heap.size, 3, none⟩ = some (.int .i64 d1)) := hide fun W hW => box_cells (by rw [hb0] at hW; simpa using hW)
  have HB0 := hide hb0
  clear hc ht
  go_enter Try.func50, Try.ntmps50
  go_wp2
  go_loopw [11] (fun vi wr => ∃ i : Nat, i ≤ sc.length ∧ vi = .int .i64 i ∧ Below b0.heap.size b0 wr ∧ (List.range i).all (keepA ⟨t0, t1, d0, d1⟩ sc) = true) (fun vi _ => sc.length - (intOf vi).toNat)
  case atStart => exact ⟨0, Nat.zero_le _, rfl, by rw [HB0.out]; exact Below.refl _ _, rfl⟩
  case round =>
    obtain ⟨i, hi, rfl, hbr, hall⟩ := hrel
    have HAL := hide hall
    have HBR := hide hbr
    have HWR : Hid (Below w.heap.size w wr) := hide (HW0.out.trans (hbr.mono HW0.out.size))
    clear hall hb0
    by_cases hil : i < sc.length
    · obtain ⟨b, o, rfl, hb, hr⟩ := HA.out (by omega)
      obtain ⟨x0, x1, x2, x3⟩ := act_cells hr HWR.out hb hil
      have j3 : (0 : Int) ≤ (i : Int) := by omega
      have j4 : (i : Int) < (sc.length : Int) := by omega
      have HKA := hide (HKD.out i)
      have HFL : Hid (keepA ⟨t0, t1, d0, d1⟩ sc i = false → keepP ⟨t0, t1, d0, d1⟩ sc = false) := hide (fun e => by rw [HKP.out]; exact all_fail hil e)
      have HBX : Hid (Below b0.heap.size b0 (wr.alloc (.cells #[.int .i64 (actF sc i).k, .int .i64 (actF sc i).a, .int .i64 (actF sc i).b, .int .i64 (actF sc i).c] 43))) := hide (HBR.out.alloc HBR.out.size _)
      have k0 : ∀ u, (wr.alloc u).cell? ⟨w.heap.size, 2, none⟩ = some (.int .i64 d0) := fun u => (HC.out _ (hbr.alloc hbr.size u)).2.2.1
      have k1 : ∀ u, (wr.alloc u).cell? ⟨w.heap.size, 3, none⟩ = some (.int .i64 d1) := fun u => (HC.out _ (hbr.alloc hbr.size u)).2.2.2
      have HPB := hide (pboth_any (actF sc i) d0 d1)
      have HKA2 : Hid (keepA ⟨t0, t1, d0, d1⟩ sc i = (bothB (actF sc i) d0 d1 && match aheadP sc i with | none => decide ((actF sc i).a ≤ t1) | some k => inB ((actF sc i).a - (actF sc k).a) t0 t1)) := HKA
      generalize bothB (actF sc i) d0 d1 = p1 at *
      clear hr hbr HKA
      go_wp2_with fail
      refine (HPB.out _).mono ?_
      rintro e w1 ⟨rfl, hb1⟩
      have hb1' : Below (wr.heap.size + 1) (wr.alloc (.cells #[.int .i64 (actF sc i).k, .int .i64 (actF sc i).a, .int .i64 (actF sc i).b, .int .i64 (actF sc i).c] 43)) w1 := by simpa using hb1
      have HB1' := hide hb1'
      have HB1 : Hid (Below b0.heap.size b0 w1) := hide (HBX.out.trans (hb1.mono HBX.out.size))
      have HW1 : Hid (Below w.heap.size w w1) := hide (HW0.out.trans (HB1.out.mono HW0.out.size))
      clear hb1 hb1' x0 x1 x2 x3 k0 k1
      cases p1 with
      | false =>
        have HF : Hid (keepP ⟨t0, t1, d0, d1⟩ sc = false) := hide (HFL.out (by rw [HKA2.out]; rfl))
        clear HKA2
        go_wp2
        go_ret
        exact ⟨by rw [HF.out]; rfl, HW1.out⟩
      | true =>
        go_wp2_with fail
        refine (pahead_any _ _ sc (HS.out.below HW1.out) i hil).mono ?_
        rintro e w2 ⟨rfl, hb2⟩
        have hb2' := HB1'.out.trans (hb2.mono (by simpa using HB1'.out.size))
        have hb2b : Below b0.heap.size b0 w2 := HB1.out.trans (hb2.mono HB1.out.size)
        have HB2 := hide hb2b
        have HW2 : Hid (Below w.heap.size w w2) := hide (HW0.out.trans (hb2b.mono HW0.out.size))
        have c1 : ∀ u, (w2.alloc u).cell? ⟨wr.heap.size, 1, none⟩ = some (.int .i64 (actF sc i).a) := fun u => (box_cells (hb2'.alloc (by simpa using hb2'.size) u)).2.1
        have k0 : ∀ u, (w2.alloc u).cell? ⟨w.heap.size, 0, none⟩ = some (.int .i64 t0) := fun u => (HC.out _ (hb2b.alloc hb2b.size u)).1
        have k1 : ∀ u, (w2.alloc u).cell? ⟨w.heap.size, 1, none⟩ = some (.int .i64 t1) := fun u => (HC.out _ (hb2b.alloc hb2b.size u)).2.1
        clear hb2 hb2' hb2b
        cases hc : aheadP sc i with
        | none =>
          rw [ahead_none hc]
          have HK : Hid (keepA ⟨t0, t1, d0, d1⟩ sc i = decide ((actF sc i).a ≤ t1)) := hide (by rw [HKA2.out, hc]; rfl)
          clear hc HKA2
          by_cases hle : (actF sc i).a ≤ t1
          · have hg : ¬ (actF sc i).a > t1 := by omega
            have HF : Hid (keepA ⟨t0, t1, d0, d1⟩ sc i = true) := hide (by rw [HK.out]; simp [hle])
            clear hle
            go_wp2
            go_roundw
            case rel => exact ⟨i + 1, by omega, by go_num, HB2.out.alloc HB2.out.size _, all_step HAL.out HF.out⟩
            case measure => simp [intOf]; omega
          · have hg : (actF sc i).a > t1 := by omega
            have HF : Hid (keepP ⟨t0, t1, d0, d1⟩ sc = false) := hide (HFL.out (by rw [HK.out]; simp [hle]))
            clear hle
            go_wp2
            go_ret
            exact ⟨by rw [HF.out]; rfl, HW2.out.alloc HW2.out.size _⟩
        | some k =>
          rw [ahead_at hc]
          have g1 := (aheadG_some hc).1
          have u1 := HT.out i hil
          have u2 := HT.out k (by omega)
          have hw1 : IntKind.i64.wrap ((actF sc i).a - (actF sc k).a) = (actF sc i).a - (actF sc k).a := by rw [IntKind.wrap_i64]; omega
          have HK : Hid (keepA ⟨t0, t1, d0, d1⟩ sc i = inB ((actF sc i).a - (actF sc k).a) t0 t1) := hide (by rw [HKA2.out, hc]; rfl)
          clear hc HKA2 u1 u2
          generalize actF sc k = ak at *
          generalize (actF sc i).a = ai at *
          obtain ⟨a0, a1, a2, a3⟩ := ak
          simp only [] at hw1
          go_wp2_with fail
          refine (pwithin_any (ai - a1) t0 t1 _).mono ?_
          rintro e w3 ⟨rfl, hb3⟩
          have HB3 : Hid (Below b0.heap.size b0 w3) := hide ((HB2.out.alloc HB2.out.size _).trans (hb3.mono (by have := HB2.out.size; simp; omega)))
          have HW3 : Hid (Below w.heap.size w w3) := hide (HW0.out.trans (HB3.out.mono HW0.out.size))
          rw [← show keepA ⟨t0, t1, d0, d1⟩ sc i = inB (ai - a1) t0 t1 from HK.out]
          clear hb3 HK c1 k0 k1
          cases hp : keepA ⟨t0, t1, d0, d1⟩ sc i with
          | false =>
            have HF : Hid (keepP ⟨t0, t1, d0, d1⟩ sc = false) := hide (HFL.out hp)
            clear hp
            go_wp2
            go_ret
            exact ⟨by rw [HF.out]; rfl, HW3.out⟩
          | true =>
            have HF : Hid ((List.range (i + 1)).all (keepA ⟨t0, t1, d0, d1⟩ sc) = true) := hide (all_step HAL.out hp)
            clear hp
            go_wp2
            go_roundw
            case rel => exact ⟨i + 1, by omega, by go_num, HB3.out, HF.out⟩
            case measure => simp [intOf]; omega
    · have ek : i = sc.length := by omega
      subst ek
      have HF : Hid (keepP ⟨t0, t1, d0, d1⟩ sc = true) := hide (by rw [HKP.out, HAL.out])
      clear hbr
      go_wp2
      go_ret
      exact ⟨by rw [HF.out]; rfl, HWR.out⟩

end Go.Proofs.Ytmndgoapkmhglab
