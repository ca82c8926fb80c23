import Derived.Test.YtmndgoapkmhglabB32MarkD
namespace Go.Proofs.Ytmndgoapkmhglab
open Go.RowKit
attribute [local go_sem ↓] Go.wp_at_zero Go.wp_at_succ

theorem numL_at : ∀ (l : List UInt8) (k v : Nat), numL k l = some v → k ≤ v ∧ ∃ c, l[v - k]? = some c ∧ W 2 c = true := by
  intro l
  induction l with
  | nil => intro k v h; cases h
  | cons c r ih =>
    intro k v h
    unfold numL at h
    split at h
    · rename_i hc
      cases h
      refine ⟨by omega, ?_⟩
      rw [Nat.add_sub_cancel_left]
      have key : ∀ (r : List UInt8) (c : UInt8), W 2 c = true → ∃ d, (c :: r)[(r.takeWhile (W 2)).length]? = some d ∧ W 2 d = true := by
        intro r
        induction r with
        | nil => intro c hc; exact ⟨c, rfl, hc⟩
        | cons d r ih =>
          intro c hc
          rw [List.takeWhile_cons]
          split
          · rename_i hd; rw [List.length_cons, List.getElem?_cons_succ]; exact ih d hd
          · exact ⟨c, rfl, hc⟩
      exact key r c hc
    · obtain ⟨h1, d, h2, h3⟩ := ih (k + 1) v h
      exact ⟨by omega, d, by rw [show v - k = (v - (k + 1)) + 1 by omega, List.getElem?_cons_succ]; exact h2, h3⟩

theorem mkL_at : ∀ n f k (l : List UInt8), l.length = n → ∀ m ∈ mkL f k l, k ≤ m ∧ ∃ c, l[m - k]? = some c ∧ W 2 c = true := by
  intro n
  induction n using Nat.strongRecOn with
  | _ n ih =>
    intro f k l hn m hm
    cases f with
    | zero => simp [mkL] at hm
    | succ f =>
      cases l with
      | nil => simp [mkL] at hm
      | cons c r =>
        simp only [List.length_cons] at hn
        simp only [mkL] at hm
        have hl := take_drop_len (W 1) r
        have hsp : ∀ j, (r.dropWhile (W 1))[j]? = (c :: r)[j + (1 + (r.takeWhile (W 1)).length)]? := fun j => by
          rw [show j + (1 + (r.takeWhile (W 1)).length) = ((r.takeWhile (W 1)).length + j) + 1 by omega, List.getElem?_cons_succ, ← takeWhile_drop, List.getElem?_drop]
        split at hm
        · rcases List.mem_append.1 hm with hm | hm
          · split at hm
            · cases hv : numL (k + 1 + (r.takeWhile (W 1)).length) (r.dropWhile (W 1)) with
              | none => rw [hv] at hm; simp at hm
              | some v =>
                rw [hv] at hm
                simp at hm
                subst hm
                obtain ⟨h1, d, h2, h3⟩ := numL_at _ _ _ hv
                rw [hsp] at h2
                exact ⟨by omega, d, by rw [← h2]; congr 1; omega, h3⟩
            · simp at hm
          · obtain ⟨h1, d, h2, h3⟩ := ih _ (by omega) f _ _ rfl m hm
            rw [hsp] at h2
            exact ⟨by omega, d, by rw [← h2]; congr 1; omega, h3⟩
        · obtain ⟨h1, d, h2, h3⟩ := ih _ (by omega) f _ _ rfl m hm
          exact ⟨by omega, d, by rw [show m - k = (m - (k + 1)) + 1 by omega, List.getElem?_cons_succ]; exact h2, h3⟩

theorem marks_in (s : ByteArray) : ∀ m ∈ marksF s, m < s.size ∧ 48 ≤ byt s m ∧ byt s m ≤ 57 := by
  intro m hm
  obtain ⟨_, c, h1, h2⟩ := mkL_at _ _ _ _ rfl m hm
  have hl := size_list s
  rw [Nat.sub_zero] at h1
  have hlt : m < s.data.toList.length := by
    rcases Nat.lt_or_ge m s.data.toList.length with h | h
    · exact h
    · rw [List.getElem?_eq_none h] at h1; cases h1
  have hb : byt s m = c.toNat := by unfold byt; rw [List.getD_eq_getElem?_getD, h1]; rfl
  exact ⟨by omega, by rw [hb]; exact cls_two (W_cls h2)⟩

def seatsF (s : ByteArray) : List Nat := (marksF s).map fun m => byt s m - 48

theorem mkL_len : ∀ f k (l : List UInt8), (mkL f k l).length ≤ f := by
  intro f
  induction f with
  | zero => intro k l; simp [mkL]
  | succ f ih =>
    intro k l
    cases l with
    | nil => simp [mkL]
    | cons c r =>
      simp only [mkL]
      have h1 := ih (k + 1) r
      have h2 := ih (k + 1 + (r.takeWhile (W 1)).length) (r.dropWhile (W 1))
      split
      · rw [List.length_append]
        have : ((if c :: r.takeWhile (W 1) = kAt then (numL (k + 1 + (r.takeWhile (W 1)).length) (r.dropWhile (W 1))).toList else [])).length ≤ 1 := by
          split
          · cases numL (k + 1 + (r.takeWhile (W 1)).length) (r.dropWhile (W 1)) <;> simp
          · simp
        omega
      · omega

theorem own_less {w : World} {B B' e size n : Nat} {v : Value} {xs : List Value} (h : w.ownsRow B e size v n xs) (hb : B' ≤ B) : w.ownsRow B' e size v n xs := by
  refine ⟨h.1, ?_⟩
  rcases h.2 with h0 | ⟨g, cap, cur, hv, hg, hr⟩
  · exact .inl h0
  · exact .inr ⟨g, cap, cur, hv, Nat.le_trans hb hg, hr⟩

theorem int_later {w wr : World} {B g cap n : Nat} {M : List Nat} (h : w.ownsRow B 3 1 (.slice (some ⟨g, 0, none⟩) n cap) n (pCells M)) (hb : Below w.heap.size w wr) (hg : g < w.heap.size) {k : Nat} (hk : k < M.length) (hn : k < n) :
    wr.cell? ⟨g, k, none⟩ = some (.int .i64 (M[k] : Nat)) := by
  rw [hb.cell (p := ⟨g, k, none⟩) hg, h.cellAt k (by omega)]
  unfold pCells
  rw [List.getElem?_map, List.getElem?_eq_getElem hk]
  rfl

set_option maxHeartbeats 2000000 in
set_option maxRecDepth 100000 in
theorem seats_any (s : ByteArray) (w : World) (hs : s.size ≤ 1048576) :
    Calls Try.prog 13 #[.string s] w fun e w' => ∃ v, e = .returned v ∧ w'.ownsRow w.heap.size 3 1 v (seatsF s).length (pCells (seatsF s)) ∧ Below w.heap.size w w' := by
  obtain ⟨i0, hi0, hz0, hz1, hz2⟩ := info_parts Try.infoInt
  have HM := hide (marks_any s w hs)
  have HIN := hide (marks_in s)
  have hml : (marksF s).length ≤ 1048576 := Nat.le_trans (mkL_len _ _ _) hs
  have HSF : Hid (seatsF s = (marksF s).map fun m => byt s m - 48) := hide rfl
  generalize marksF s = M at HM HIN hml HSF
  go_enter Try.func13, Try.ntmps13
  go_wp2_with fail
  refine HM.out.mono ?_
  rintro e w1 ⟨vm, rfl, hownM, hb1⟩
  obtain ⟨av, cv, rfl, hsh⟩ := own_shape hownM
  have HOM := hide hownM
  have HSH := hide hsh
  have hbw := hb1.size
  clear HM hownM hsh
  go_wp2
  go_loopw [4, 5] (fun v vi wr => ∃ i : Nat, i ≤ M.length ∧ vi = .int .i64 i ∧ wr.ownsRow w1.heap.size 3 1 v ((M.take i).map fun m => byt s m - 48).length (pCells ((M.take i).map fun m => byt s m - 48)) ∧ Below w1.heap.size w1 wr) (fun _ vi _ => M.length - (intOf vi).toNat)
  case atStart => exact ⟨0, Nat.zero_le _, rfl, World.ownsRow_nil _ _ _ _, Below.refl _ _⟩
  case round =>
    obtain ⟨i, hi, rfl, hown, hbel⟩ := hrel
    have hbs := hbel.size
    have hB : Hid (Below w.heap.size w wr) := hide (hb1.trans (hbel.mono hbw))
    have HOW := hide hown
    by_cases hlt : i < M.length
    · obtain ⟨g, rfl, _, hg⟩ := HSH.out (by omega)
      have r0 := int_later HOM.out hbel hg hlt hlt
      obtain ⟨h1, h2, h3⟩ := HIN.out _ (List.getElem_mem hlt)
      have HT : Hid (M.take (i + 1) = M.take i ++ [M[i]]) := hide (by rw [List.take_add_one, List.getElem?_eq_getElem hlt]; rfl)
      have hlm : ((M.take i).map fun m => byt s m - 48).length = i := by rw [List.length_map, List.length_take]; omega
      generalize M[i] = m at r0 h1 h2 h3 HT
      have eb := byt_eq s m h1
      obtain ⟨d, hd⟩ : ∃ d : Nat, byt s m = d + 48 := ⟨byt s m - 48, by omega⟩
      have HMP : Hid ((M.take (i + 1)).map (fun m => byt s m - 48) = (M.take i).map (fun m => byt s m - 48) ++ [d]) := hide (by rw [HT.out, List.map_append]; simp [hd])
      have j1 : (0 : Int) ≤ (m : Int) := by omega
      have j2 : (m : Int) < (s.size : Int) := by omega
      have j3 : (0 : Int) ≤ (i : Int) := by omega
      have j4 : (i : Int) < (M.length : Int) := by omega
      have em : IntKind.i64.wrap ((byt s m : Int) - 48) = (d : Int) := by rw [wrapI _ (by omega) (by omega)]; omega
      have hd9 : d ≤ 9 := by omega
      rw [hlm] at hown
      generalize (M.take i).map (fun m => byt s m - 48) = acc at hown HMP hlm
      clear HT hd
      go_wp2_with (at_builtin; refine wpList_append_lies _ rfl _ _ _ rfl w1.heap.size 3 i0 _ 1 8 Try.underlying38 hi0 hz0 hz1 hz2 rfl (by omega) _ i (pCells acc) rfl (hown.alloc _) ⟨wr.heap.size, 0, none⟩ 1 1 [.int .i64 (d : Int)] rfl rfl (World.news_of_block (cs := #[.int .i64 (d : Int)]) (t := 3) (fr := (0, 0)) (heap_alloc_new wr _)) (by simp [Value.oneCell']) (by omega) (by unfold maxLen; omega) (by omega) (by simp; omega) (wr.heap.size + 1) (by simp) ?_; intro g3 cap3 w3 hown3 hgrow hat hlt3)
      go_roundw
      case rel =>
        refine ⟨i + 1, by omega, by go_num, ?_, ?_⟩
        · rw [HMP.out, pCells_snoc, List.length_append, hlm]; exact hown3
        · exact (hbel.alloc hbs _).grown hgrow (by simp; omega) (fun j hj => ownBlock_ge hown j hj)
      case measure => simp [intOf]; omega
    · have HE : Hid ((M.take i).map (fun m => byt s m - 48) = seatsF s) := hide (by rw [HSF.out, List.take_of_length_le (by omega)])
      have z0 : ¬ (i : Int) < (M.length : Int) := by omega
      go_wp2
      go_ret
      refine ⟨_, rfl, ?_, hB.out⟩
      rw [← HE.out]
      exact own_less HOW.out hbw

end Go.Proofs.Ytmndgoapkmhglab
