import Derived.Test.YtbmhafagdchjfaaScanA
import Derived.Deep.RegionHeld3
import Derived.Deep.AppendLies
import Derived.Deep.DrawnRows
import Derived.OwnWalk
namespace Go.Proofs.Ytbmhafagdchjfaa
open Go.RowKit
attribute [local go_sem ↓] Go.wp_at_zero Go.wp_at_succ

def Tk.cells (t : Tk) : List Value := [.int .i64 (t.kind : Int), .int .i64 (t.pos : Int), .string t.text]
def tkCells (l : List Tk) : List Value := l.flatMap Tk.cells
theorem tkCells_snoc (l : List Tk) (t : Tk) : tkCells (l ++ [t]) = tkCells l ++ t.cells := by simp [tkCells]

theorem Try.infoTok : (Try.prog.info? 75).map (fun i => (i.zero, i.size, i.bytes)) = some (some (.agg #[.int .i64 0, .int .i64 0, .string ByteArray.empty]), 3, 32) := by kernel_rfl

theorem ownBlock_ge {w : World} {base e size n : Nat} {v : Value} {xs : List Value} (h : w.ownsRow base e size v n xs) : ∀ k, v.ownBlock = some k → base ≤ k := by
  intro k hk
  rcases h.2 with ⟨rfl, _⟩ | ⟨g, cap, cur, rfl, hb, _⟩
  · simp [Value.ownBlock] at hk
  · simp [Value.ownBlock] at hk; omega

set_option maxHeartbeats 2000000 in
set_option maxRecDepth 100000 in
theorem tokens_any (s : ByteArray) (w : World) (hs : s.size ≤ 1500) :
    Calls Try.prog 39 #[.string s] w fun e w' => ∃ v, e = .returned v ∧ w'.ownsRow w.heap.size 75 3 v (toks s).length (tkCells (toks s)) ∧ Below w.heap.size w w' := by
  obtain ⟨i0, hi0, hz0, hz1, hz2⟩ := info_parts Try.infoTok
  go_enter Try.func39, Try.ntmps39
  go_wp2
  go_loopw [3, 4] (fun v i wr => ∃ (k : Nat) (l : List Tk), k ≤ s.size ∧ i = .int .i64 k ∧ l ++ toksFrom s (s.size - k) k = toksFrom s s.size 0 ∧ l.length ≤ k ∧
      wr.ownsRow w.heap.size 75 3 v l.length (tkCells l) ∧ Below w.heap.size w wr) (fun _ i _ => s.size - (intOf i).toNat)
  case atStart => exact ⟨0, [], by omega, rfl, by simp, by simp, World.ownsRow_nil _ _ _ _, Below.refl _ _⟩
  case round =>
    obtain ⟨k, l, hk, rfl, hl, hlen, hown, hbel⟩ := hrel
    have HL := hide hl
    clear hl
    by_cases hlt : k < s.size
    · have eb := byt_eq s k hlt
      have hm : s.size ≤ maxLen := by unfold maxLen; omega
      have hc4 := cls_le (byt s k)
      by_cases hb : cls (byt s k) = 0
      · have HB := hide hb
        have q0 : ((cls (byt s k) : Int) != 0) = false := by rw [hb]; rfl
        have qe : (if cls (byt s k) = 1 ∨ cls (byt s k) = 2 then runTo s (cls (byt s k)) (s.size - (k + 1)) (k + 1) else k + 1) = k + 1 := by rw [if_neg (by omega)]
        clear hb
        go_wp2_with (first | (go_at_call 61; refine (classOf_any _ _).mono ?_; rintro e w' ⟨rfl, rfl⟩) | (go_at_call 62; refine (runEnd_any s (k + 1) _ _ hm (by omega)).mono ?_; rintro e w' ⟨rfl, rfl⟩))
        go_roundw
        case rel => exact ⟨k + 1, l, by omega, by go_num, by rw [← toksFrom_blank s k hlt HB.out]; exact HL.out, by omega, hown, hbel⟩
        case measure => simp [intOf]; omega
      · have HB := hide hb
        have q0 : ((cls (byt s k) : Int) != 0) = true := by rw [bne_iff_ne]; omega
        obtain ⟨e, he⟩ : ∃ e, e = endOf s k := ⟨_, rfl⟩
        have qe : (if cls (byt s k) = 1 ∨ cls (byt s k) = 2 then runTo s (cls (byt s k)) (s.size - (k + 1)) (k + 1) else k + 1) = e := by rw [he]; rfl
        have he1 : k < e := by rw [he]; exact endOf_gt s k
        have he2 : e ≤ s.size := by rw [he]; exact endOf_le s k hlt
        have HE := hide he
        have i1 : (0 : Int) ≤ (k : Int) := by omega
        have i2 : (k : Int) ≤ (e : Int) := by omega
        have i3 : (e : Int) ≤ (s.size : Int) := by omega
        clear hb he
        go_wp2_with (first | (go_at_call 61; refine (classOf_any _ _).mono ?_; rintro e' w' ⟨rfl, rfl⟩) | (go_at_call 62; refine (runEnd_any s (k + 1) _ _ hm (by omega)).mono ?_; rintro e' w' ⟨rfl, rfl⟩))
        go_region_held3 (fun _ => True) (trivial)
          (first
           | (go_at_call 63; refine (kindOf_any _ _ _ (by simp; omega) hc4).mono ?_; rintro e' w' ⟨rfl, rfl⟩)
           | (refine step_append_lies _ (by rfl) _ _ _ (by rfl) w.heap.size 75 i0 _ 3 32 Try.underlying72 hi0 hz0 hz1 hz2 rfl (by omega) _ l.length (tkCells l) (by rfl) ((hown.alloc _).drew)
                ⟨wr.heap.size, 0, none⟩ 1 1 [.int .i64 ((kindB (s.extract k e) (cls (byt s k)) : Nat) : Int), .int .i64 (k : Int), .string (s.extract k e)] (by rfl) (by rfl)
                (World.news_of_block (cs := #[.int .i64 ((kindB (s.extract k e) (cls (byt s k)) : Nat) : Int), .int .i64 (k : Int), .string (s.extract k e)]) (t := 75) (fr := (0, 0)) (heap_alloc_new wr _)) (by simp [Value.oneCell'])
                (by omega) (by unfold maxLen; omega) (by omega) (by have := hbel.size; simp; omega) (wr.heap.size + 1) (by simp) ?_; intro gg cap w1 hown1 hgrow hat hlt1))
        go_wp2
        go_roundw
        case rel =>
          have e1 : e = endOf s k := HE.out
          refine ⟨e, l ++ [tokAt s k], he2, rfl, ?_, by simp; omega, ?_, ?_⟩
          · rw [List.append_assoc, e1]
            have := toksFrom_tok s k hlt HB.out
            rw [List.singleton_append, ← this]
            exact HL.out
          · rw [tkCells_snoc, List.length_append]
            simp only [Tk.cells, tokAt, ← e1]
            exact hown1
          · exact ((hbel.alloc hbel.size _).drew).grown hgrow (by have := hbel.size; simp; omega) (fun j hj => ownBlock_ge hown j hj)
        case measure => simp [intOf]; omega
    · have ek : k = s.size := by omega
      have HK := hide ek
      clear ek
      go_wp2_with (at_builtin; refine wpList_append_lies _ rfl _ _ _ rfl w.heap.size 75 i0 _ 3 32 Try.underlying72 hi0 hz0 hz1 hz2 rfl (by omega) _ l.length (tkCells l) rfl (hown.alloc _) ⟨wr.heap.size, 0, none⟩ 1 1 [.int .i64 0, .int .i64 (s.size : Int), .string ByteArray.empty] rfl rfl (World.news_of_block (cs := #[.int .i64 0, .int .i64 (s.size : Int), .string ByteArray.empty]) (t := 75) (fr := (0, 0)) (heap_alloc_new wr _)) (by simp [Value.oneCell']) (by omega) (by unfold maxLen; omega) (by omega) (by have := hbel.size; simp; omega) (wr.heap.size + 1) (by simp) ?_; intro gg cap w1 hown1 hgrow hat hlt1)
      go_ret
      have hE : toks s = l ++ [⟨0, s.size, ByteArray.empty⟩] := by
        have h1 := HL.out
        rw [toksFrom_end s _ k (by omega), List.append_nil] at h1
        rw [toks, ← h1]
      refine ⟨_, rfl, ?_, ?_⟩
      · rw [hE, tkCells_snoc, List.length_append]
        exact hown1
      · exact (hbel.alloc hbel.size _).grown hgrow (by have := hbel.size; simp; omega) (fun j hj => ownBlock_ge hown j hj)

end Go.Proofs.Ytbmhafagdchjfaa
