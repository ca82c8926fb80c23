import Derived.Lib.ItoaNum
import Derived.Test.YtmndgoapkmhglaaM17AstO
import Derived.Test.YtmndgoapkmhglaaM23RePure
import Derived.Test.YtmndgoapkmhglaaM33MarkC
namespace Go.Proofs.Ytmndgoapkmhglaa
open Go.RowKit
attribute [local go_sem ↓] Go.wp_at_zero Go.wp_at_succ

theorem cls_one {c : Nat} (h : cls c = 1) : 97 ≤ c ∧ c ≤ 122 := by
  unfold cls at h
  split at h
  · cases h
  · split at h
    · assumption
    · split at h
      · cases h
      · split at h <;> cases h
theorem dwh_head {p : UInt8 → Bool} : ∀ (l : List UInt8) {c : UInt8} {r : List UInt8}, l.dropWhile p = c :: r → p c = false := by
  intro l
  induction l with
  | nil => intro c r h; cases h
  | cons d l ih =>
    intro c r h
    rw [List.dropWhile_cons] at h
    split at h
    · exact ih h
    · rename_i hd; cases h; simpa using hd

/-- the end of the word that begins at i. -/
def wordE (s : ByteArray) (i : Nat) : Nat := i + ((s.data.toList.drop i).takeWhile (W 1)).length

theorem wordE_le (s : ByteArray) (i : Nat) (h : i ≤ s.size) : wordE s i ≤ s.size := by
  have hl := size_list s
  have h1 := take_drop_len (W 1) (s.data.toList.drop i)
  rw [List.length_drop] at h1
  unfold wordE
  omega
theorem wordE_in (s : ByteArray) (i : Nat) (hi : i ≤ s.size) : ∀ j, i ≤ j → j < wordE s i → j < s.size ∧ 97 ≤ byt s j ∧ byt s j ≤ 122 := by
  intro j h1 h2
  have hl := size_list s
  have hE := wordE_le s i hi
  refine ⟨by omega, ?_⟩
  have hm : s.data.toList[j]'(by omega) ∈ (s.data.toList.drop i).takeWhile (W 1) := by
    have e : (s.data.toList.drop i).takeWhile (W 1) = (s.data.toList.drop i).take ((s.data.toList.drop i).takeWhile (W 1)).length := (takeWhile_take _ _).symm
    rw [e, List.mem_take_iff_getElem]
    refine ⟨j - i, by rw [List.length_drop]; unfold wordE at h2 hE; omega, ?_⟩
    rw [List.getElem_drop]
    congr 1
    omega
  have hc := W_cls (tw_all _ _ _ hm)
  have hb : byt s j = (s.data.toList[j]'(by omega)).toNat := by
    unfold byt; rw [List.getD_eq_getElem?_getD, List.getElem?_eq_getElem (by omega)]; rfl
  rw [← hb] at hc
  exact cls_one hc
theorem wordE_end (s : ByteArray) (i : Nat) (h : wordE s i < s.size) : ¬ (97 ≤ byt s (wordE s i) ∧ byt s (wordE s i) ≤ 122) := by
  intro hc
  have hl := size_list s
  obtain ⟨c, hd, he⟩ := drop_byt s (wordE s i) h
  have h1 : (s.data.toList.drop i).dropWhile (W 1) = s.data.toList.drop (wordE s i) := by
    rw [← takeWhile_drop, List.drop_drop]; rfl
  have h2 : W 1 c = true := by unfold W; rw [he, cls_1 hc.1 hc.2]; rfl
  rw [dwh_head _ (h1.trans hd)] at h2
  cases h2

/-- one step of the marks. -/
theorem mk_word (s : ByteArray) (i f : Nat) (hi : i < s.size) (h : i < wordE s i) (hf : s.size - i ≤ f) : mkL f i (s.data.toList.drop i) =
    (if (s.extract i (wordE s i)).data.toList = kAt then (numL (wordE s i) (s.data.toList.drop (wordE s i))).toList else []) ++ mkL (s.size - wordE s i) (wordE s i) (s.data.toList.drop (wordE s i)) := by
  have hl := size_list s
  obtain ⟨c, hd, he⟩ := drop_byt s i hi
  have hE := wordE_le s i (by omega)
  have hc : W 1 c = true := by
    have := (wordE_in s i (by omega) i (Nat.le_refl _) h).2
    unfold W; rw [he, cls_1 this.1 this.2]; rfl
  have hx : (s.extract i (wordE s i)).data.toList = c :: (s.data.toList.drop (i + 1)).takeWhile (W 1) := by
    rw [ByteArray.data_extract, Array.toList_extract, List.extract_eq_take_drop]
    unfold wordE
    rw [Nat.add_sub_cancel_left, takeWhile_take, hd, List.takeWhile_cons, if_pos hc]
  have hw : wordE s i = i + 1 + ((s.data.toList.drop (i + 1)).takeWhile (W 1)).length := by
    unfold wordE; rw [hd, List.takeWhile_cons, if_pos hc, List.length_cons]; omega
  have hdr : (s.data.toList.drop (i + 1)).dropWhile (W 1) = s.data.toList.drop (wordE s i) := by
    rw [← takeWhile_drop, List.drop_drop, hw]
  obtain ⟨f, rfl⟩ : ∃ g, f = g + 1 := ⟨f - 1, by omega⟩
  rw [hd]
  show (if W 1 c then _ else _) = _
  rw [if_pos hc, hdr, ← hw, hx]
  congr 1
  exact mkL_fuel _ _ _ _ (by rw [List.length_drop]; omega) (by rw [List.length_drop]; omega)
theorem mk_skip (s : ByteArray) (i f : Nat) (hi : i < s.size) (h : wordE s i = i) (hf : s.size - i ≤ f) : mkL f i (s.data.toList.drop i) = mkL (s.size - (i + 1)) (i + 1) (s.data.toList.drop (i + 1)) := by
  have hl := size_list s
  obtain ⟨c, hd, he⟩ := drop_byt s i hi
  have hc : W 1 c = false := by
    cases hw : W 1 c with
    | false => rfl
    | true =>
      have := wordE_end s i (by omega)
      rw [h] at this
      unfold W at hw
      rw [he] at hw
      exact absurd (cls_one (by simpa using hw)) this
  obtain ⟨f, rfl⟩ : ∃ g, f = g + 1 := ⟨f - 1, by omega⟩
  rw [hd]
  show (if W 1 c then _ else _) = _
  rw [if_neg (by rw [hc]; decide)]
  exact mkL_fuel _ _ _ _ (by rw [List.length_drop]; omega) (by rw [List.length_drop]; omega)

set_option maxHeartbeats 2000000 in
set_option maxRecDepth 100000 in
theorem marks_any (s : ByteArray) (w : World) (hs : s.size ≤ 1048576) :
    Calls Try.prog 53 #[.string s] w fun e w' => ∃ v, e = .returned v ∧ w'.ownsRow w.heap.size 3 1 v (marksF s).length (pCells (marksF s)) ∧ Below w.heap.size w w' := by
  obtain ⟨i0, hi0, hz0, hz1, hz2⟩ := info_parts Try.infoInt
  have HU : Hid ([] ++ mkL (s.size - 0) 0 (s.data.toList.drop 0) = marksF s) := hide rfl
  go_enter Try.func53, Try.ntmps53
  go_wp2
  go_loopw [3, 4] (fun v vi wr => ∃ (i : Nat) (acc : List Nat), i ≤ s.size ∧ vi = .int .i64 i ∧ acc ++ mkL (s.size - i) i (s.data.toList.drop i) = marksF s ∧ acc.length ≤ i ∧ wr.ownsRow w.heap.size 3 1 v acc.length (pCells acc) ∧ Below w.heap.size w wr) (fun _ vi _ => s.size - (intOf vi).toNat)
  case atStart => exact ⟨0, [], Nat.zero_le _, rfl, HU.out, by simp, World.ownsRow_nil _ _ _ _, Below.refl _ _⟩
  case round =>
    obtain ⟨i, acc, hi, rfl, hrec, hal, hown, hbel⟩ := hrel
    have HOW := hide hown
    have HRC := hide hrec
    have hbs := hbel.size
    clear hrec
    by_cases hlt : i < s.size
    · obtain ⟨E, hE⟩ : ∃ E, E = wordE s i := ⟨_, rfl⟩
      have hE1 : i ≤ E := by rw [hE]; unfold wordE; omega
      have hE2 : E ≤ s.size := by rw [hE]; exact wordE_le s i hi
      have HIN : Hid (∀ j, i ≤ j → j < E → j < s.size ∧ 97 ≤ byt s j ∧ byt s j ≤ 122) := hide (by rw [hE]; exact wordE_in s i hi)
      have HEN : Hid (E < s.size → ¬ (97 ≤ byt s E ∧ byt s E ≤ 122)) := hide (by rw [hE]; exact wordE_end s i)
      have HSK : Hid (E = i → acc ++ mkL (s.size - (i + 1)) (i + 1) (s.data.toList.drop (i + 1)) = marksF s) := hide (fun e => by
        rw [← mk_skip s i (s.size - i) hlt (by rw [← hE, e]) (Nat.le_refl _)]; exact HRC.out)
      have HWD : Hid (i < E → acc ++ ((if (s.extract i E).data.toList = kAt then (numL E (s.data.toList.drop E)).toList else []) ++ mkL (s.size - E) E (s.data.toList.drop E)) = marksF s) := hide (fun h => by
        rw [hE] at h ⊢; rw [← mk_word s i (s.size - i) hlt h (Nat.le_refl _)]; exact HRC.out)
      clear hE HRC
      go_wp2
      go_loop [5] (fun v => ∃ j : Nat, i ≤ j ∧ j ≤ E ∧ v = .int .i64 j) (fun v => s.size - (intOf v).toNat)
      case atStart => exact ⟨i, Nat.le_refl _, hE1, rfl⟩
      case round =>
        obtain ⟨j, hj1, hj2, rfl⟩ := hrel
        by_cases hjE : j < E
        · obtain ⟨h1, h2, h3⟩ := HIN.out j hj1 hjE
          have eb := byt_eq s j h1
          have z1 : 97 ≤ (byt s j : Int) := by omega
          have z2 : (byt s j : Int) ≤ 122 := by omega
          clear h2 h3
          go_wp2
          go_round
          case rel => exact ⟨j + 1, by omega, by omega, by go_num⟩
          case measure => simp [intOf]; omega
        · have ej : j = E := by omega
          subst ej
          have HTH : Hid ((¬ (j : Int) < (s.size : Int)) ∨ (∃ h : j < s.size, (s[j]'h).toNat = byt s j ∧ ¬ (97 : Int) ≤ (byt s j : Int)) ∨ (∃ h : j < s.size, (s[j]'h).toNat = byt s j ∧ (97 : Int) ≤ (byt s j : Int) ∧ ¬ (byt s j : Int) ≤ 122)) := hide (by
            by_cases h : j < s.size
            · have := HEN.out h
              by_cases h9 : 97 ≤ byt s j
              · exact .inr (.inr ⟨h, byt_eq s j h, by omega, by omega⟩)
              · exact .inr (.inl ⟨h, byt_eq s j h, by omega⟩)
            · exact .inl (by omega))
          have i1 : (0 : Int) ≤ (i : Int) := by omega
          have i2 : (i : Int) ≤ (j : Int) := by omega
          have i3 : (j : Int) ≤ (s.size : Int) := by omega
          clear HIN HEN hjE
          by_cases eij : j = i
          · have HS := hide (HSK.out eij)
            have q1 : ((j : Int) == (i : Int)) = true := by rw [eij]; simp
            clear HSK HWD eij
            rcases HTH.out with z0 | ⟨zl, eb, z1⟩ | ⟨zl, eb, z1, z2⟩ <;>
            · clear HTH
              go_wp2
              go_roundw
              case rel => exact ⟨i + 1, acc, by omega, by go_num, HS.out, by omega, HOW.out, hbel⟩
              case measure => simp [intOf]; omega
          · have HS := hide (HWD.out (by omega))
            have q1 : ((j : Int) == (i : Int)) = false := by rw [beq_eq_false_iff_ne]; omega
            have hij : i < j := by omega
            clear HSK HWD eij
            by_cases hat : (s.extract i j).data.toList = kAt
            · have q2 : (s.extract i j).toList = [97, 116] := str_yes hat
              rw [if_pos hat] at HS
              clear hat
              have HNB : Hid (numB s j = match numL j (s.data.toList.drop j) with | some v => (v : Int) | none => -1) := hide rfl
              cases hn : numL j (s.data.toList.drop j) with
              | none =>
                rw [hn] at HS HNB
                have HS2 : Hid (acc ++ mkL (s.size - j) j (s.data.toList.drop j) = marksF s) := hide HS.out
                clear hn HS
                rcases HTH.out with z0 | ⟨zl, eb, z1⟩ | ⟨zl, eb, z1, z2⟩ <;>
                · clear HTH
                  go_wp2_with fail
                  refine (number_any s j _ hs (by omega)).mono ?_
                  rintro e2 w2 ⟨rfl, rfl⟩
                  rw [HNB.out]
                  go_wp2
                  go_roundw
                  case rel => exact ⟨j, acc, by omega, rfl, HS2.out, by omega, HOW.out, hbel⟩
                  case measure => simp [intOf]; omega
              | some v =>
                rw [hn] at HS HNB
                have HS2 : Hid ((acc ++ [v]) ++ mkL (s.size - j) j (s.data.toList.drop j) = marksF s) := hide (by rw [List.append_assoc]; exact HS.out)
                have zv : (0 : Int) ≤ (v : Int) := by omega
                clear hn HS
                rcases HTH.out with z0 | ⟨zl, eb, z1⟩ | ⟨zl, eb, z1, z2⟩ <;>
                · clear HTH
                  go_wp2_with fail
                  refine (number_any s j _ hs (by omega)).mono ?_
                  rintro e2 w2 ⟨rfl, rfl⟩
                  rw [HNB.out]
                  go_wp2_with (at_builtin; refine wpList_append_lies _ rfl _ _ _ rfl w.heap.size 3 i0 _ 1 8 Try.underlying48 hi0 hz0 hz1 hz2 rfl (by omega) _ acc.length (pCells acc) rfl (hown.alloc _) ⟨wr.heap.size, 0, none⟩ 1 1 [.int .i64 (v : Int)] rfl rfl (World.news_of_block (cs := #[.int .i64 (v : Int)]) (t := 3) (fr := (0, 0)) (heap_alloc_new wr _)) (by simp [Value.oneCell']) (by omega) (by unfold maxLen; omega) (by omega) (by simp; omega) (wr.heap.size + 1) (by simp) ?_; intro g3 cap3 w3 hown3 hgrow hat hlt3)
                  go_roundw
                  case rel =>
                    refine ⟨j, acc ++ [v], by omega, rfl, HS2.out, by simp; omega, ?_, ?_⟩
                    · rw [pCells_snoc, List.length_append]; exact hown3
                    · exact (hbel.alloc hbs _).grown hgrow (by simp; omega) (fun j hj => ownBlock_ge hown j hj)
                  case measure => simp [intOf]; omega
            · have q2 : ((s.extract i j).toList == [97, 116]) = false := str_no hat
              rw [if_neg hat, List.nil_append] at HS
              clear hat
              rcases HTH.out with z0 | ⟨zl, eb, z1⟩ | ⟨zl, eb, z1, z2⟩ <;>
              · clear HTH
                go_wp2
                go_roundw
                case rel => exact ⟨j, acc, by omega, rfl, HS.out, by omega, HOW.out, hbel⟩
                case measure => simp [intOf]; omega
    · have ei : i = s.size := by omega
      have HF : Hid (acc = marksF s) := hide (by have h := HRC.out; rw [ei, Nat.sub_self] at h; simpa [mkL] using h)
      clear ei HRC
      go_wp2
      go_ret
      refine ⟨_, rfl, ?_, hbel⟩
      rw [← HF.out]
      exact HOW.out

end Go.Proofs.Ytmndgoapkmhglaa

namespace Go.Proofs.Ytmndgoapkmhglaa
open Go.RowKit
attribute [local go_sem ↓] Go.wp_at_zero Go.wp_at_succ

theorem numL_at : ∀ (l : List UInt8) (k v : Nat), numL k l = some v → k ≤ v ∧ ∃ c, l[v - k]? = some c ∧ W 2 c = true := by
  intro l
  induction l with
  | nil => intro k v h; cases h
  | cons c r ih =>
    intro k v h
    unfold numL at h
    split at h
    · rename_i hc
      cases h
      refine ⟨by omega, ?_⟩
      rw [Nat.add_sub_cancel_left]
      have key : ∀ (r : List UInt8) (c : UInt8), W 2 c = true → ∃ d, (c :: r)[(r.takeWhile (W 2)).length]? = some d ∧ W 2 d = true := by
        intro r
        induction r with
        | nil => intro c hc; exact ⟨c, rfl, hc⟩
        | cons d r ih =>
          intro c hc
          rw [List.takeWhile_cons]
          split
          · rename_i hd; rw [List.length_cons, List.getElem?_cons_succ]; exact ih d hd
          · exact ⟨c, rfl, hc⟩
      exact key r c hc
    · obtain ⟨h1, d, h2, h3⟩ := ih (k + 1) v h
      exact ⟨by omega, d, by rw [show v - k = (v - (k + 1)) + 1 by omega, List.getElem?_cons_succ]; exact h2, h3⟩

theorem mkL_at : ∀ n f k (l : List UInt8), l.length = n → ∀ m ∈ mkL f k l, k ≤ m ∧ ∃ c, l[m - k]? = some c ∧ W 2 c = true := by
  intro n
  induction n using Nat.strongRecOn with
  | _ n ih =>
    intro f k l hn m hm
    cases f with
    | zero => simp [mkL] at hm
    | succ f =>
      cases l with
      | nil => simp [mkL] at hm
      | cons c r =>
        simp only [List.length_cons] at hn
        simp only [mkL] at hm
        have hl := take_drop_len (W 1) r
        have hsp : ∀ j, (r.dropWhile (W 1))[j]? = (c :: r)[j + (1 + (r.takeWhile (W 1)).length)]? := fun j => by
          rw [show j + (1 + (r.takeWhile (W 1)).length) = ((r.takeWhile (W 1)).length + j) + 1 by omega, List.getElem?_cons_succ, ← takeWhile_drop, List.getElem?_drop]
        split at hm
        · rcases List.mem_append.1 hm with hm | hm
          · split at hm
            · cases hv : numL (k + 1 + (r.takeWhile (W 1)).length) (r.dropWhile (W 1)) with
              | none => rw [hv] at hm; simp at hm
              | some v =>
                rw [hv] at hm
                simp at hm
                subst hm
                obtain ⟨h1, d, h2, h3⟩ := numL_at _ _ _ hv
                rw [hsp] at h2
                exact ⟨by omega, d, by rw [← h2]; congr 1; omega, h3⟩
            · simp at hm
          · obtain ⟨h1, d, h2, h3⟩ := ih _ (by omega) f _ _ rfl m hm
            rw [hsp] at h2
            exact ⟨by omega, d, by rw [← h2]; congr 1; omega, h3⟩
        · obtain ⟨h1, d, h2, h3⟩ := ih _ (by omega) f _ _ rfl m hm
          exact ⟨by omega, d, by rw [show m - k = (m - (k + 1)) + 1 by omega, List.getElem?_cons_succ]; exact h2, h3⟩

theorem marks_in (s : ByteArray) : ∀ m ∈ marksF s, m < s.size ∧ 48 ≤ byt s m ∧ byt s m ≤ 57 := by
  intro m hm
  obtain ⟨_, c, h1, h2⟩ := mkL_at _ _ _ _ rfl m hm
  have hl := size_list s
  rw [Nat.sub_zero] at h1
  have hlt : m < s.data.toList.length := by
    rcases Nat.lt_or_ge m s.data.toList.length with h | h
    · exact h
    · rw [List.getElem?_eq_none h] at h1; cases h1
  have hb : byt s m = c.toNat := by unfold byt; rw [List.getD_eq_getElem?_getD, h1]; rfl
  exact ⟨by omega, by rw [hb]; exact cls_two (W_cls h2)⟩

def seatsF (s : ByteArray) : List Nat := (marksF s).map fun m => byt s m - 48

theorem mkL_len : ∀ f k (l : List UInt8), (mkL f k l).length ≤ f := by
  intro f
  induction f with
  | zero => intro k l; simp [mkL]
  | succ f ih =>
    intro k l
    cases l with
    | nil => simp [mkL]
    | cons c r =>
      simp only [mkL]
      have h1 := ih (k + 1) r
      have h2 := ih (k + 1 + (r.takeWhile (W 1)).length) (r.dropWhile (W 1))
      split
      · rw [List.length_append]
        have : ((if c :: r.takeWhile (W 1) = kAt then (numL (k + 1 + (r.takeWhile (W 1)).length) (r.dropWhile (W 1))).toList else [])).length ≤ 1 := by
          split
          · cases numL (k + 1 + (r.takeWhile (W 1)).length) (r.dropWhile (W 1)) <;> simp
          · simp
        omega
      · omega

theorem own_less {w : World} {B B' e size n : Nat} {v : Value} {xs : List Value} (h : w.ownsRow B e size v n xs) (hb : B' ≤ B) : w.ownsRow B' e size v n xs := by
  refine ⟨h.1, ?_⟩
  rcases h.2 with h0 | ⟨g, cap, cur, hv, hg, hr⟩
  · exact .inl h0
  · exact .inr ⟨g, cap, cur, hv, Nat.le_trans hb hg, hr⟩

theorem int_later {w wr : World} {B g cap n : Nat} {M : List Nat} (h : w.ownsRow B 3 1 (.slice (some ⟨g, 0, none⟩) n cap) n (pCells M)) (hb : Below w.heap.size w wr) (hg : g < w.heap.size) {k : Nat} (hk : k < M.length) (hn : k < n) :
    wr.cell? ⟨g, k, none⟩ = some (.int .i64 (M[k] : Nat)) := by
  rw [hb.cell (p := ⟨g, k, none⟩) hg, h.cellAt k (by omega)]
  unfold pCells
  rw [List.getElem?_map, List.getElem?_eq_getElem hk]
  rfl

set_option maxHeartbeats 2000000 in
set_option maxRecDepth 100000 in
theorem seats_any (s : ByteArray) (w : World) (hs : s.size ≤ 1048576) :
    Calls Try.prog 25 #[.string s] w fun e w' => ∃ v, e = .returned v ∧ w'.ownsRow w.heap.size 3 1 v (seatsF s).length (pCells (seatsF s)) ∧ Below w.heap.size w w' := by
  obtain ⟨i0, hi0, hz0, hz1, hz2⟩ := info_parts Try.infoInt
  have HM := hide (marks_any s w hs)
  have HIN := hide (marks_in s)
  have hml : (marksF s).length ≤ 1048576 := Nat.le_trans (mkL_len _ _ _) hs
  have HSF : Hid (seatsF s = (marksF s).map fun m => byt s m - 48) := hide rfl
  generalize marksF s = M at HM HIN hml HSF
  go_enter Try.func25, Try.ntmps25
  go_wp2_with fail
  refine HM.out.mono ?_
  rintro e w1 ⟨vm, rfl, hownM, hb1⟩
  obtain ⟨av, cv, rfl, hsh⟩ := own_shape hownM
  have HOM := hide hownM
  have HSH := hide hsh
  have hbw := hb1.size
  clear HM hownM hsh
  go_wp2
  go_loopw [4, 5] (fun v vi wr => ∃ i : Nat, i ≤ M.length ∧ vi = .int .i64 i ∧ wr.ownsRow w1.heap.size 3 1 v ((M.take i).map fun m => byt s m - 48).length (pCells ((M.take i).map fun m => byt s m - 48)) ∧ Below w1.heap.size w1 wr) (fun _ vi _ => M.length - (intOf vi).toNat)
  case atStart => exact ⟨0, Nat.zero_le _, rfl, World.ownsRow_nil _ _ _ _, Below.refl _ _⟩
  case round =>
    obtain ⟨i, hi, rfl, hown, hbel⟩ := hrel
    have hbs := hbel.size
    have hB : Hid (Below w.heap.size w wr) := hide (hb1.trans (hbel.mono hbw))
    have HOW := hide hown
    by_cases hlt : i < M.length
    · obtain ⟨g, rfl, _, hg⟩ := HSH.out (by omega)
      have r0 := int_later HOM.out hbel hg hlt hlt
      obtain ⟨h1, h2, h3⟩ := HIN.out _ (List.getElem_mem hlt)
      have HT : Hid (M.take (i + 1) = M.take i ++ [M[i]]) := hide (by rw [List.take_add_one, List.getElem?_eq_getElem hlt]; rfl)
      have hlm : ((M.take i).map fun m => byt s m - 48).length = i := by rw [List.length_map, List.length_take]; omega
      generalize M[i] = m at r0 h1 h2 h3 HT
      have eb := byt_eq s m h1
      obtain ⟨d, hd⟩ : ∃ d : Nat, byt s m = d + 48 := ⟨byt s m - 48, by omega⟩
      have HMP : Hid ((M.take (i + 1)).map (fun m => byt s m - 48) = (M.take i).map (fun m => byt s m - 48) ++ [d]) := hide (by rw [HT.out, List.map_append]; simp [hd])
      have j1 : (0 : Int) ≤ (m : Int) := by omega
      have j2 : (m : Int) < (s.size : Int) := by omega
      have j3 : (0 : Int) ≤ (i : Int) := by omega
      have j4 : (i : Int) < (M.length : Int) := by omega
      have em : IntKind.i64.wrap ((byt s m : Int) - 48) = (d : Int) := by rw [wrapI _ (by omega) (by omega)]; omega
      have hd9 : d ≤ 9 := by omega
      rw [hlm] at hown
      generalize (M.take i).map (fun m => byt s m - 48) = acc at hown HMP hlm
      clear HT hd
      go_wp2_with (at_builtin; refine wpList_append_lies _ rfl _ _ _ rfl w1.heap.size 3 i0 _ 1 8 Try.underlying48 hi0 hz0 hz1 hz2 rfl (by omega) _ i (pCells acc) rfl (hown.alloc _) ⟨wr.heap.size, 0, none⟩ 1 1 [.int .i64 (d : Int)] rfl rfl (World.news_of_block (cs := #[.int .i64 (d : Int)]) (t := 3) (fr := (0, 0)) (heap_alloc_new wr _)) (by simp [Value.oneCell']) (by omega) (by unfold maxLen; omega) (by omega) (by simp; omega) (wr.heap.size + 1) (by simp) ?_; intro g3 cap3 w3 hown3 hgrow hat hlt3)
      go_roundw
      case rel =>
        refine ⟨i + 1, by omega, by go_num, ?_, ?_⟩
        · rw [HMP.out, pCells_snoc, List.length_append, hlm]; exact hown3
        · exact (hbel.alloc hbs _).grown hgrow (by simp; omega) (fun j hj => ownBlock_ge hown j hj)
      case measure => simp [intOf]; omega
    · have HE : Hid ((M.take i).map (fun m => byt s m - 48) = seatsF s) := hide (by rw [HSF.out, List.take_of_length_le (by omega)])
      have z0 : ¬ (i : Int) < (M.length : Int) := by omega
      go_wp2
      go_ret
      refine ⟨_, rfl, ?_, hB.out⟩
      rw [← HE.out]
      exact own_less HOW.out hbw

end Go.Proofs.Ytmndgoapkmhglaa

/- Plain mathematics: a number's own digits are those that stand there, but for noughts ahead; and the two ways to lay a text out are one. -/
namespace Go.Proofs.Ytmndgoapkmhglaa

theorem valOf_snoc (l : List UInt8) (d : UInt8) : valOf (l ++ [d]) = valOf l * 10 + (d.toNat - 48) := by
  unfold valOf; rw [List.foldl_append]; rfl

theorem valOf_pos : ∀ (l : List UInt8), (∀ c ∈ l, 48 ≤ c.toNat ∧ c.toNat ≤ 57) → (∃ c r, l = c :: r ∧ c ≠ 48) → 1 ≤ valOf l := by
  have key : ∀ (n : Nat) (l : List UInt8), l.length = n → (∀ c ∈ l, 48 ≤ c.toNat ∧ c.toNat ≤ 57) → (∃ c r, l = c :: r ∧ c ≠ 48) → 1 ≤ valOf l := by
    intro n
    induction n with
    | zero => rintro l hl _ ⟨c, r, rfl, _⟩; simp at hl
    | succ n ih =>
      rintro l hl hd ⟨c, r, rfl, hc⟩
      rcases List.eq_nil_or_concat r with rfl | ⟨r', d, rfl⟩
      · have h1 := hd c (by simp)
        have h2 : c.toNat ≠ 48 := fun e => hc (UInt8.toNat_inj.1 e)
        simp only [valOf, List.foldl_cons, List.foldl_nil]
        omega
      · have e : c :: (r' ++ [d]) = (c :: r') ++ [d] := rfl
        have := ih (c :: r') (by simp at hl ⊢; omega) (fun x hx => hd x (by rw [List.concat_eq_append, e]; exact List.mem_append_left _ hx)) ⟨c, r', rfl, hc⟩
        rw [List.concat_eq_append, e, valOf_snoc]
        omega
  exact fun l => key l.length l rfl

theorem dec_val : ∀ (n : Nat) (l : List UInt8), l.length = n → l ≠ [] → (∀ c ∈ l, 48 ≤ c.toNat ∧ c.toNat ≤ 57) → (l.length = 1 ∨ ∃ c r, l = c :: r ∧ c ≠ 48) → Lib.decDigits (valOf l) = l := by
  intro n
  induction n with
  | zero => intro l hl hne; exact absurd (List.eq_nil_of_length_eq_zero hl) hne
  | succ n ih =>
    intro l hl hne hd hh
    rcases List.eq_nil_or_concat l with rfl | ⟨r, d, rfl⟩
    · exact absurd rfl hne
    rw [List.concat_eq_append] at *
    have hdd := hd d (by simp)
    have hof : UInt8.ofNat (48 + (d.toNat - 48)) = d := by
      rw [show 48 + (d.toNat - 48) = d.toNat by omega]; simp
    rcases hr : r with _ | ⟨c, r'⟩
    · subst hr
      have hv : valOf ([] ++ [d]) = d.toNat - 48 := by rw [valOf_snoc]; simp [valOf]
      rw [hv, Lib.decDigits_one (by omega), hof]; rfl
    · have hc : c ≠ 48 := by
        rcases hh with h | ⟨c', r'', e, h⟩
        · rw [hr] at h; simp at h
        · rw [hr] at e; simp at e; rw [e.1]; exact h
      have hd' : ∀ x ∈ c :: r', 48 ≤ x.toNat ∧ x.toNat ≤ 57 := fun x hx => hd x (by rw [hr]; exact List.mem_append_left _ hx)
      have hp := valOf_pos (c :: r') hd' ⟨c, r', rfl, hc⟩
      rw [hr] at hl
      have hi := ih (c :: r') (by simp at hl ⊢; omega) (by simp) hd' (.inr ⟨c, r', rfl, hc⟩)
      rw [valOf_snoc, Lib.decDigits, dif_neg (by omega), show (valOf (c :: r') * 10 + (d.toNat - 48)) / 10 = valOf (c :: r') by omega, show (valOf (c :: r') * 10 + (d.toNat - 48)) % 10 = d.toNat - 48 by omega, hi, hof]

theorem trim_head : ∀ l : List UInt8, l ≠ [] → ((trimL l).length = 1 ∨ ∃ c r, trimL l = c :: r ∧ c ≠ 48) := by
  intro l
  induction l with
  | nil => intro h; exact absurd rfl h
  | cons c r ih =>
    intro _
    cases r with
    | nil => exact .inl rfl
    | cons d r =>
      simp only [trimL]
      split
      · exact ih (by simp)
      · rename_i h; exact .inr ⟨c, d :: r, rfl, h⟩

/-- a number as strconv writes it. -/
theorem dec_trim (l : List UInt8) (hne : l ≠ []) (hd : ∀ c ∈ l, 48 ≤ c.toNat ∧ c.toNat ≤ 57) : Lib.decDigits (valOf l) = trimL l := by
  rw [← trim_val l]
  exact dec_val _ (trimL l) rfl (trim_ne hne) (fun c hc => hd c (trim_mem l c hc)) (trim_head l hne)

/-- what the reference has laid out of the first k tokens. -/
def refN (ts : List Tk) (k : Nat) : List UInt8 := outN ts k ++ (if 0 < k ∧ (tkAt ts (k - 1)).l = [59] then [10] else [])
/-- is the next token the first of a line? -/
def freshN (ts : List Tk) (k : Nat) : Bool := decide (k = 0) || ((tkAt ts (k - 1)).l == [59])

theorem refN_succ (ts : List Tk) (k : Nat) : refN ts (k + 1) =
    refN ts k ++ (if freshN ts k = true then [] else if (tkAt ts (k - 1)).l = [40] ∨ (tkAt ts k).l = [41] ∨ (tkAt ts k).l = [59] then [] else [32]) ++ bareL (tkAt ts k) ++ (if (tkAt ts k).l = [59] then [10] else []) := by
  unfold refN freshN
  rw [outN]
  unfold pieceL
  by_cases h0 : k = 0
  · subst h0
    simp
  · have hk : 0 < k := by omega
    by_cases h1 : (tkAt ts (k - 1)).l = [59]
    · simp [h0, hk, h1, gapL]
    · have h1' : ((tkAt ts (k - 1)).l == [59]) = false := beq_eq_false_iff_ne.2 h1
      simp [h0, hk, h1, h1', gapL]

theorem refN_end (s : ByteArray) (hs : s.size ≤ 1500) (h : (textF s).1 = 0) : refN (toks s) ((toks s).length - 1) = (outF s).data.toList := by
  obtain ⟨p, hp⟩ := text_ok hs h
  obtain ⟨h1, h2, h3⟩ := end_at s hs p hp
  have hlen : (toks s).length = (tk 0 s.data.toList).length + 1 := by rw [toks_list]; simp
  have hlast : (tkAt (toks s) (tk 0 s.data.toList).length).l = [] ∧ (tkAt (toks s) (tk 0 s.data.toList).length).kind = 0 := by
    rw [toks_list, tkAt_mid]; exact ⟨rfl, rfl⟩
  have ho : (outF s).data.toList = outN (toks s) (toks s).length := by unfold outF; simp
  rw [ho, hlen, Nat.add_sub_cancel, outN]
  unfold refN
  congr 1
  have hb : bareL (tkAt (toks s) (tk 0 s.data.toList).length) = [] := by unfold bareL; rw [if_neg (by rw [hlast.2]; decide)]; exact hlast.1
  unfold pieceL
  rw [hb, hlast.1, List.append_nil]
  rcases h3 with h3 | h3
  · have : (tk 0 s.data.toList).length = 0 := by rw [← h1, h3]; rfl
    rw [this]; simp
  · rw [h1] at h3
    by_cases hz : (tk 0 s.data.toList).length = 0
    · rw [hz]; simp
    · rw [if_neg hz, if_pos ⟨by omega, h3⟩]
      unfold gapL
      rw [if_pos h3]

end Go.Proofs.Ytmndgoapkmhglaa

namespace Go.Proofs.Ytmndgoapkmhglaa

/-- a token is the bytes that stand at its place. -/
theorem tk_sub : ∀ n k (l : List UInt8), l.length = n → ∀ t ∈ tk k l, k ≤ t.pos ∧ ∀ j (hj : j < t.l.length), l[t.pos - k + j]? = some t.l[j] := by
  intro n
  induction n using Nat.strongRecOn with
  | _ n ih =>
    intro k l hn t ht
    cases l with
    | nil => rw [tk_nil] at ht; simp at ht
    | cons c r =>
      simp only [List.length_cons] at hn
      by_cases h0 : cls c.toNat = 0
      · rw [tk_blank h0] at ht
        obtain ⟨h1, h2⟩ := ih r.length (by omega) (k + 1) r rfl t ht
        refine ⟨by omega, fun j hj => ?_⟩
        rw [show t.pos - k + j = (t.pos - (k + 1) + j) + 1 by omega, List.getElem?_cons_succ]
        exact h2 j hj
      · by_cases h12 : cls c.toNat = 1 ∨ cls c.toNat = 2
        · rw [tk_word h12] at ht
          have hl := take_drop_len (W (cls c.toNat)) r
          rcases List.mem_cons.1 ht with rfl | ht
          · refine ⟨Nat.le_refl _, fun j hj => ?_⟩
            have e : (tokW k (c :: r.takeWhile (W (cls c.toNat))) (cls c.toNat)).l = c :: r.takeWhile (W (cls c.toNat)) := tokW_l _ _ _
            simp only [e] at hj ⊢
            show (c :: r)[k - k + j]? = _
            rw [Nat.sub_self, Nat.zero_add, ← List.getElem?_eq_getElem hj]
            cases j with
            | zero => rfl
            | succ j =>
              rw [List.getElem?_cons_succ, List.getElem?_cons_succ]
              simp at hj
              have e2 := congrArg (fun l => l[j]?) (List.takeWhile_append_dropWhile (p := W (cls c.toNat)) (l := r))
              rw [← e2, List.getElem?_append_left hj]
          · obtain ⟨h1, h2⟩ := ih _ (by omega) _ _ rfl t ht
            refine ⟨by omega, fun j hj => ?_⟩
            have h3 := h2 j hj
            rw [← takeWhile_drop, List.getElem?_drop] at h3
            rw [← h3, show t.pos - k + j = ((r.takeWhile (W (cls c.toNat))).length + (t.pos - (k + 1 + (r.takeWhile (W (cls c.toNat))).length) + j)) + 1 by omega, List.getElem?_cons_succ]
        · rw [tk_one (by omega)] at ht
          rcases List.mem_cons.1 ht with rfl | ht
          · refine ⟨Nat.le_refl _, fun j hj => ?_⟩
            have e : (tokW k [c] (cls c.toNat)).l = [c] := tokW_l _ _ _
            simp only [e] at hj ⊢
            simp at hj
            subst hj
            show (c :: r)[k - k + 0]? = _
            rw [Nat.sub_self]; rfl
          · obtain ⟨h1, h2⟩ := ih r.length (by omega) (k + 1) r rfl t ht
            refine ⟨by omega, fun j hj => ?_⟩
            rw [show t.pos - k + j = (t.pos - (k + 1) + j) + 1 by omega, List.getElem?_cons_succ]
            exact h2 j hj

theorem toks_sub (s : ByteArray) (i : Nat) (h : (tkAt (toks s) i).kind ≠ 0) (j : Nat) (hj : j < (tkAt (toks s) i).l.length) : byt s ((tkAt (toks s) i).pos + j) = ((tkAt (toks s) i).l[j]).toNat := by
  have hi : i < (tk 0 s.data.toList).length := by
    rcases Nat.lt_or_ge i (tk 0 s.data.toList).length with hi | hi
    · exact hi
    · exfalso
      rw [toks_list] at h
      by_cases e : i = (tk 0 s.data.toList).length
      · rw [e, tkAt_mid] at h; exact h rfl
      · unfold tkAt at h
        rw [List.getD_eq_getElem?_getD, List.getElem?_eq_none (by simp; omega)] at h
        exact h rfl
  have hm : tkAt (toks s) i ∈ tk 0 s.data.toList := by rw [toks_list, tkAt_left hi]; exact tkAt_mem hi
  generalize tkAt (toks s) i = t at hm hj ⊢
  have := (tk_sub _ 0 s.data.toList rfl t hm).2 j hj
  rw [Nat.sub_zero] at this
  unfold byt
  rw [List.getD_eq_getElem?_getD, this]
  rfl

theorem val_last (l : List UInt8) (hd : ∀ c ∈ l, 48 ≤ c.toNat ∧ c.toNat ≤ 57) (hne : l ≠ []) (h : valOf l < 4) : ∃ (r : List UInt8) (d : UInt8), l = r ++ [d] ∧ d.toNat - 48 = valOf l ∧ valOf r = 0 := by
  rcases List.eq_nil_or_concat l with rfl | ⟨r, d, rfl⟩
  · exact absurd rfl hne
  · rw [List.concat_eq_append] at *
    rw [valOf_snoc] at h ⊢
    exact ⟨r, d, rfl, by omega, by omega⟩

theorem place_last {s : ByteArray} {k : Nat} (h3 : (tkAt (toks s) k).kind = 3) (h4 : valOf (lAt (toks s) k) < 4) : byt s (lastD (tkAt (toks s) k)) - 48 = valOf (lAt (toks s) k) := by
  obtain ⟨_, hd, hne⟩ := fine_dig (toks_fine s k (by omega)) h3
  obtain ⟨r, d, he, hv, _⟩ := val_last _ hd hne h4
  have hlen : (tkAt (toks s) k).l.length = r.length + 1 := by rw [he]; simp
  have hb := toks_sub s k (by omega) r.length (by omega)
  unfold lastD
  rw [hlen, show (tkAt (toks s) k).pos + (r.length + 1) - 1 = (tkAt (toks s) k).pos + r.length by omega, hb, ← hv]
  congr 2
  simp [he]

/-- the places of a right text's equations. -/
theorem seats_text {s : ByteArray} {L : List Dl} (h : Spell (toks s) L 0) : seatsF s = (eqL L).map (placeD (toks s)) := by
  unfold seatsF
  rw [marks_text h, List.map_map]
  refine List.map_congr_left fun x hx => ?_
  have hm := List.mem_filter.1 hx
  have hk : x.kind ≠ 0 := by simpa using hm.2
  rcases (spell_mem L 0 h x hm.1).2.2 with ⟨h0, _⟩ | ⟨_, _, _, h4, _⟩
  · exact absurd h0 hk
  · exact place_last h4.1 h4.2

end Go.Proofs.Ytmndgoapkmhglaa
