import Derived.Deep.RegionHeld3
import Derived.Test.Ytmndgoapkmhglabc32OpenL
import Derived.Test.Ytmndgoapkmhglabc35PlyL
import Derived.Test.Ytmndgoapkmhglabc41AcF
import Derived.Test.Ytmndgoapkmhglabc47BdA
import Derived.Test.Ytmndgoapkmhglabc49KpC
namespace Go.Proofs.Ytmndgoapkmhglab
open Go.RowKit
attribute [local go_sem ↓] Go.wp_at_zero Go.wp_at_succ

end Go.Proofs.Ytmndgoapkmhglab
namespace Go.Proofs.Ytmndgoapkmhglab
open Go.RowKit
theorem ev_cells {w : World} {B ge ce : Nat} {E : List EvF} {TV VV : Nat → Value} (h : w.ownsRow B 41 6 (.slice (some ⟨ge, 0, none⟩) E.length ce) E.length (evCells E TV VV)) {i : Nat} {e : EvF} (he : E[i]? = some e) :
    w.cell? ⟨ge, i * 6, none⟩ = some (.int .i64 e.k) ∧ w.cell? ⟨ge, i * 6 + 1, none⟩ = some (.int .i64 e.a) ∧ w.cell? ⟨ge, i * 6 + 2, none⟩ = some (.int .i64 e.did) ∧ w.cell? ⟨ge, i * 6 + 3, none⟩ = some (.int .i64 e.n) ∧ w.cell? ⟨ge, i * 6 + 4, none⟩ = some (TV i) ∧ w.cell? ⟨ge, i * 6 + 5, none⟩ = some (VV i) := by
  have hi : i < E.length := (List.getElem?_eq_some_iff.1 he).1
  have hg : ∀ j, j < 6 → (evCells E TV VV)[i * 6 + j]? = ([Value.int .i64 e.k, .int .i64 e.a, .int .i64 e.did, .int .i64 e.n, TV i, VV i] : List Value)[j]? := fun j hj => by
    unfold evCells
    rw [flat_get (fun i => [Value.int .i64 ((E[i]?.map EvF.k).getD 0), .int .i64 ((E[i]?.map EvF.a).getD 0), .int .i64 ((E[i]?.map EvF.did).getD 0), .int .i64 ((E[i]?.map EvF.n).getD 0), TV i, VV i]) 6 (fun _ => rfl) (List.range E.length) i j (by simpa using hi) hj]
    rw [List.getElem_range, he]
    rfl
  have hc : ∀ j, j < 6 → w.cell? ⟨ge, i * 6 + j, none⟩ = ([Value.int .i64 e.k, .int .i64 e.a, .int .i64 e.did, .int .i64 e.n, TV i, VV i] : List Value)[j]? := fun j hj => by rw [h.cellAt (i * 6 + j) (by omega), hg j hj]
  exact ⟨hc 0 (by omega), hc 1 (by omega), hc 2 (by omega), hc 3 (by omega), hc 4 (by omega), hc 5 (by omega)⟩
end Go.Proofs.Ytmndgoapkmhglab
namespace Go.Proofs.Ytmndgoapkmhglab
open Go.RowKit
attribute [local go_sem ↓] Go.wp_at_zero Go.wp_at_succ
def usedK (ws : List Nat) (k : Nat) : List Nat := (List.range k).filter fun q => ws.any fun p => p == q
theorem usedK_succ (ws : List Nat) (k : Nat) : usedK ws (k + 1) = usedK ws k ++ (if ws.any (fun p => p == k) then [k] else []) := by
  unfold usedK
  rw [List.range_succ, List.filter_append]
  congr 1
  cases h : ws.any (fun p => p == k) <;> simp [List.filter, h]
theorem usedK_len (ws : List Nat) (k : Nat) : (usedK ws k).length ≤ k := by
  unfold usedK
  refine Nat.le_trans (List.length_filter_le _ _) ?_
  rw [List.length_range]
  exact Nat.le_refl _
set_option maxHeartbeats 2000000 in
set_option maxRecDepth 100000 in
theorem used_any (s : ByteArray) (w : World) (hs : s.size ≤ 1048576) :
    Calls Try.prog 26 #[.string s] w fun e w' => ∃ v, e = .returned v ∧ w'.ownsRow w.heap.size 3 1 v (usedK (seatsF s) 4).length (pCells (usedK (seatsF s) 4)) ∧ Below w.heap.size w w' := by
  obtain ⟨i0, hi0, hz0, hz1, hz2⟩ := info_parts Try.infoInt
  have HS := hide (seats_any s w hs)
  have hwl : (seatsF s).length ≤ 1048576 := Nat.le_trans (seats_len s) hs
  generalize seatsF s = ws at *
  go_enter Try.func26, Try.ntmps26
  go_wp2_with fail
  refine HS.out.mono ?_
  rintro e w1 ⟨v, rfl, hown, hb1⟩
  obtain ⟨a, c, rfl, hsh⟩ := own_shape hown
  have HOW := hide hown
  have HB1 := hide hb1
  have HSH := hide hsh
  have s1 := hb1.size
  clear hown hb1 hsh HS
  go_wp2
  go_loopw [4, 5] (fun vl vq wr => ∃ q : Nat, q ≤ 4 ∧ vq = .int .i64 q ∧ wr.ownsRow w1.heap.size 3 1 vl (usedK ws q).length (pCells (usedK ws q)) ∧ Below w1.heap.size w1 wr) (fun _ vq _ => 4 - (intOf vq).toNat)
  case atStart => exact ⟨0, by omega, rfl, World.ownsRow_nil _ _ _ _, Below.refl _ _⟩
  case round =>
    obtain ⟨q, hq, rfl, hol, hbr⟩ := hrel
    obtain ⟨vl, hvl⟩ : ∃ vl, vl = u4 := ⟨_, rfl⟩
    rw [← hvl] at hol
    have HVL := hide hvl
    have HOL := hide hol
    have HBR := hide hbr
    have hbs := hbr.size
    have hul := usedK_len ws q
    by_cases hq4 : q < 4
    · have HUS := hide (usedK_succ ws q)
      have q4 : (q : Int) < 4 := by omega
      generalize usedK ws q = U at *
      clear hol hbr
      go_wp2
      rw [← HVL.out]
      obtain ⟨wo, hwo⟩ : ∃ wo, wo = wr := ⟨_, rfl⟩
      rw [← hwo] at HOL HBR hbs ⊢
      clear hwo hvl HVL
      go_loopw [4, 6] (fun v4 vi wx => ∃ i : Nat, i ≤ ws.length ∧ vi = .int .i64 i ∧ v4 = vl ∧ wx = wo ∧ ∀ j, (h : j < ws.length) → j < i → ws[j] ≠ q) (fun _ vi _ => ws.length - (intOf vi).toNat)
      case atStart => exact ⟨0, Nat.zero_le _, rfl, rfl, rfl, fun j _ h => by omega⟩
      case round =>
        obtain ⟨i, hi, rfl, hv4, hwx, hno⟩ := hrel
        subst hv4 hwx
        by_cases hil : i < ws.length
        · obtain ⟨g, rfl, _, hg⟩ := HSH.out (by omega)
          have hod := HOL.out
          have x0 := int_later HOW.out HBR.out hg hil hil
          have j3 : (0 : Int) ≤ (i : Int) := by omega
          have j4 : (i : Int) < (ws.length : Int) := by omega
          by_cases e : ws[i] = q
          · have HE : Hid (ws.any (fun p => p == q) = true) := hide (by rw [List.any_eq_true]; exact ⟨ws[i], List.getElem_mem hil, by rw [e]; simp⟩)
            rw [e] at x0
            have d1 : ((q : Int) == (q : Int)) = true := by simp
            clear hno e
            go_wp2_with (at_builtin; refine wpList_append_lies _ rfl _ _ _ rfl w1.heap.size 3 i0 _ 1 8 Try.underlying38 hi0 hz0 hz1 hz2 rfl (by omega) _ U.length (pCells U) rfl (hod.alloc _) ⟨wr.heap.size, 0, none⟩ 1 1 [.int .i64 (q : Int)] rfl rfl (World.news_of_block (cs := #[.int .i64 (q : Int)]) (t := 3) (fr := (0, 0)) (heap_alloc_new wr _)) (by simp [Value.oneCell']) (by omega) (by unfold maxLen; omega) (by omega) (by simp; omega) (wr.heap.size + 1) (by simp) ?_; intro g3 cap3 w3 hown3 hgrow hat hlt3)
            go_roundw
            case rel =>
              refine ⟨q + 1, by omega, by go_num, ?_, ?_⟩
              · rw [HUS.out, HE.out, if_pos rfl, List.length_append, pCells_snoc]; exact hown3
              · exact (HBR.out.alloc hbs _).grown hgrow (by simp; omega) (fun j hj => ownBlock_ge hod j hj)
            case measure => simp [intOf]; omega
          · have HNO : Hid (∀ j, (h : j < ws.length) → j < i + 1 → ws[j] ≠ q) := hide (fun j h hj => by
              by_cases ej : j = i
              · subst ej; exact e
              · exact hno j h (by omega))
            have d1 : (((ws[i] : Nat) : Int) == (q : Int)) = false := by rw [beq_eq_false_iff_ne]; omega
            generalize ws[i] = p at *
            clear hno e
            go_wp2
            go_roundw
            case rel => exact ⟨i + 1, by omega, by go_num, by first | rfl | trivial, by first | rfl | trivial, HNO.out⟩
            case measure => simp [intOf]; omega
        · have ei : i = ws.length := by omega
          have HE : Hid (ws.any (fun p => p == q) = false) := hide (by
            rw [Bool.eq_false_iff, Ne, List.any_eq_true]
            rintro ⟨p, hp, hpe⟩
            obtain ⟨j, hj, rfl⟩ := List.getElem_of_mem hp
            exact hno j hj (by omega) (by simpa using hpe))
          clear hno
          subst ei
          go_wp2
          go_roundw
          case rel => exact ⟨q + 1, by omega, by go_num, by rw [HUS.out, HE.out]; simpa using HOL.out, HBR.out⟩
          case measure => simp [intOf]; omega
    · have eq : q = 4 := by omega
      subst eq
      clear hol hbr
      go_wp2
      go_ret
      rw [HVL.out] at HOL
      exact ⟨_, rfl, own_weak HOL.out s1, HB1.out.trans (HBR.out.mono s1)⟩
def rawN (l : List Int) (k n : Nat) : Nat := if h : 0 < l.length then pickN (l[k % l.length]'(Nat.mod_lt _ h)) n else 0
theorem rawN_lt (l : List Int) (k : Nat) {n : Nat} (h : 0 < n) : rawN l k n < n := by
  unfold rawN
  split
  · exact pickN_lt _ h
  · exact h
set_option maxHeartbeats 2000000 in
set_option maxRecDepth 100000 in
theorem raw_any (w : World) (v : Value) (l : List Int) (h : RowAt w v l) (hl : ∀ x ∈ l, -9223372036854775808 ≤ x ∧ x ≤ 9223372036854775807) (k n : Nat) (hk : k ≤ 10000) (hn : 0 < n) (hn' : n ≤ 1000001) :
    Calls Try.prog 49 #[v, .int .i64 (k : Int), .int .i64 (n : Int)] w fun e w' => e = .returned (.int .i64 ((rawN l k n : Nat) : Int)) ∧ w = w' := by
  obtain ⟨a, c, rfl, hm, hc⟩ := h
  by_cases h0 : 0 < l.length
  · obtain ⟨b, o, rfl, hb, hcell⟩ := hc h0
    have hlt := Nat.mod_lt k h0
    have x0 := hcell (k % l.length) hlt
    have HR : Hid (rawN l k n = pickN (l[k % l.length]'hlt) n) := hide (by unfold rawN; rw [dif_pos h0])
    obtain ⟨r1, r2⟩ := hl _ (List.getElem_mem hlt)
    have HP := hide (pick_any (l[k % l.length]'hlt) n w r1 r2 hn hn')
    generalize l[k % l.length] = z at *
    have e1 : Int.tmod (k : Int) (l.length : Int) = ((k % l.length : Nat) : Int) := by rw [Int.tmod_eq_emod_of_nonneg (by omega)]; rfl
    have e2 : ((l.length : Int) == 0) = false := by rw [beq_eq_false_iff_ne]; omega
    have e3 : (l.length : Int) ≠ 0 := by omega
    have e4 : (0 : Int) ≤ ((k % l.length : Nat) : Int) := by omega
    have e5 : ((k % l.length : Nat) : Int) < (l.length : Int) := by omega
    generalize k % l.length = m at *
    clear hcell hc hl
    go_enter Try.func49, Try.ntmps49
    go_wp2_with fail
    refine HP.out.mono ?_
    rintro e w2 ⟨rfl, rfl⟩
    go_wp2
    go_ret
    exact ⟨by rw [HR.out]; rfl, rfl⟩
  · have e0 : l.length = 0 := by omega
    have HR : Hid (rawN l k n = 0) := hide (by unfold rawN; rw [dif_neg h0])
    rw [e0]
    clear hc hl h0 e0
    go_enter Try.func49, Try.ntmps49
    go_wp2
    go_ret
    exact ⟨by rw [HR.out]; rfl, rfl⟩
theorem lastA_snoc (q : Int) (a : OpF) : ∀ (l : List OpF) (z : Int), lastA q (l ++ [a]) z = if a.k = q then a.a else lastA q l z := by
  intro l
  induction l with
  | nil => intro z; rfl
  | cons x r ih => intro z; exact ih _
theorem horA_snoc (sc : List OpF) (q : Int) : ∀ (l : List Int) (h : Int), horA sc (l ++ [q]) h = if lastA q sc (-1) < horA sc l h then lastA q sc (-1) else horA sc l h := by
  intro l
  induction l with
  | nil => intro h; rfl
  | cons x r ih => intro h; exact ih _
theorem horF_snoc (sc : List OpF) (q : Int) (l : List Int) : horF sc (l ++ [q]) = if l.length = 0 ∨ lastA q sc (-1) < horF sc l then lastA q sc (-1) else horF sc l := by
  cases l with
  | nil => rfl
  | cons x r =>
    show horA sc (r ++ [q]) _ = _
    rw [horA_snoc]
    simp [horF]
set_option maxHeartbeats 4000000 in
set_option maxRecDepth 100000 in
theorem horizon_any (w : World) (v : Value) (ps : List Int) (hp : RowAt w v ps) (vS : Value) (sc : List OpF) (hS : OpsAt w vS sc) :
    Calls Try.prog 51 #[v, vS] w fun e w' => e = .returned (.int .i64 (horF sc ps)) ∧ Below w.heap.size w w' := by
  obtain ⟨aS, cS, rfl, hmS, hcS⟩ := hS
  obtain ⟨a, c, rfl, hm, hc⟩ := hp
  have HC := hide hc
  have HCS := hide hcS
  clear hc hcS
  go_enter Try.func51, Try.ntmps51
  go_wp2
  go_loopw [5, 6] (fun vh vi wr => ∃ i : Nat, i ≤ ps.length ∧ vi = .int .i64 i ∧ vh = .int .i64 (horF sc (ps.take i)) ∧ Below w.heap.size w wr) (fun _ vi _ => ps.length - (intOf vi).toNat)
  case atStart => exact ⟨0, Nat.zero_le _, rfl, rfl, Below.refl _ _⟩
  case round =>
    obtain ⟨i, hi, rfl, rfl, hbr⟩ := hrel
    have HBR := hide hbr
    by_cases hil : i < ps.length
    · obtain ⟨b, o, rfl, hb, hcell⟩ := HC.out (by omega)
      have HCL := hide (hcell i hil)
      have HTK : Hid (horF sc (ps.take (i + 1)) = if i = 0 ∨ lastA ps[i] sc (-1) < horF sc (ps.take i) then lastA ps[i] sc (-1) else horF sc (ps.take i)) := hide (by
        rw [List.take_succ_eq_append_getElem hil, horF_snoc, List.length_take, Nat.min_eq_left (by omega)])
      have j3 : (0 : Int) ≤ (i : Int) := by omega
      have j4 : (i : Int) < (ps.length : Int) := by omega
      generalize horF sc (ps.take i) = H0 at *
      generalize ps[i] = q at *
      clear hcell hbr
      go_wp2
      rename World => wo
      go_loopw [7, 8] (fun ve vk wx => ∃ k : Nat, k ≤ sc.length ∧ vk = .int .i64 k ∧ ve = .int .i64 (lastA q (sc.take k) (-1)) ∧ Below w.heap.size w wx) (fun _ vk _ => sc.length - (intOf vk).toNat)
      case atStart => exact ⟨0, Nat.zero_le _, rfl, rfl, HBR.out⟩
      case round =>
        obtain ⟨k, hk, rfl, rfl, hbk⟩ := hrel
        have HBK := hide hbk
        have HBN := hide (below_drewN hbk)
        by_cases hkl : k < sc.length
        · obtain ⟨bS, oS, rfl, hbS, hrS⟩ := HCS.out (by omega)
          obtain ⟨y0, y1, _, _⟩ := hrS k hkl
          rw [← hbk.cell (p := ⟨bS, oS + k * 4, none⟩) hbS] at y0
          rw [← hbk.cell (p := ⟨bS, oS + k * 4 + 1, none⟩) hbS] at y1
          have x0 := (hbk.cell (p := ⟨b, o + i, none⟩) hb).trans HCL.out
          have HL : Hid (lastA q (sc.take (k + 1)) (-1) = if sc[k].k = q then sc[k].a else lastA q (sc.take k) (-1)) := hide (by rw [List.take_succ_eq_append_getElem hkl, lastA_snoc])
          have k3 : (0 : Int) ≤ (k : Int) := by omega
          have k4 : (k : Int) < (sc.length : Int) := by omega
          generalize lastA q (sc.take k) (-1) = L0 at *
          generalize sc[k] = op at *
          obtain ⟨ok, oa, ob, oc⟩ := op
          simp only [] at y0 y1 HL
          have n1 : wr.cell? ⟨bS, oS + k * 4 + 1, none⟩ = some (.int .i64 oa) := y1
          have n2 : ∀ m, (wr.drewN m).cell? ⟨bS, oS + k * 4 + 1, none⟩ = some (.int .i64 oa) := fun m => y1
          have n3 : wr.drew.cell? ⟨bS, oS + k * 4 + 1, none⟩ = some (.int .i64 oa) := y1
          clear hrS hbk
          by_cases e : ok = q
          · have d1 : (ok == q) = true := by rw [e]; simp
            rw [if_pos e] at HL
            clear e
            go_wp2_with fail
            go_big_region
            go_wp2
            go_roundw
            case rel => exact ⟨k + 1, by omega, by go_num, by rw [HL.out], by first | exact HBK.out | exact HBK.out.drew | exact HBN.out _⟩
            case measure => simp [intOf]; omega
          · have d1 : (ok == q) = false := by rw [beq_eq_false_iff_ne]; exact e
            rw [if_neg e] at HL
            clear e
            go_wp2_with fail
            go_big_region
            go_wp2
            go_roundw
            case rel => exact ⟨k + 1, by omega, by go_num, by rw [HL.out], by first | exact HBK.out | exact HBK.out.drew | exact HBN.out _⟩
            case measure => simp [intOf]; omega
        · have ek : k = sc.length := by omega
          subst ek
          rw [List.take_length]
          generalize lastA q sc (-1) = LL at *
          by_cases e0 : i = 0
          · subst e0
            rw [if_pos (.inl rfl)] at HTK
            clear hbk
            go_wp2
            go_roundw
            case rel => exact ⟨0 + 1, by omega, by go_num, by rw [HTK.out], HBK.out⟩
            case measure => simp [intOf]; omega
          · have d0 : ((i : Int) == 0) = false := by rw [beq_eq_false_iff_ne]; omega
            by_cases e1 : LL < H0
            · have d1 : decide (LL < H0) = true := decide_eq_true e1
              rw [if_pos (.inr e1)] at HTK
              clear hbk e1
              go_wp2
              go_roundw
              case rel => exact ⟨i + 1, by omega, by go_num, by rw [HTK.out], HBK.out⟩
              case measure => simp [intOf]; omega
            · have d1 : decide (LL < H0) = false := decide_eq_false e1
              rw [if_neg (fun h => h.elim e0 e1)] at HTK
              clear hbk e1
              go_wp2
              go_roundw
              case rel => exact ⟨i + 1, by omega, by go_num, by rw [HTK.out], HBK.out⟩
              case measure => simp [intOf]; omega
    · have ei : i = ps.length := by omega
      subst ei
      rw [List.take_length]
      clear hbr
      go_wp2
      go_ret
      exact ⟨rfl, HBR.out⟩
def BdAt (w : World) (B : Nat) (t0 t1 d0 d1 : Int) : Prop := w.rowIs B 23 4 (fun i => if i = 0 then .int .i64 t0 else if i = 1 then .int .i64 t1 else if i = 2 then .int .i64 d0 else .int .i64 d1)
theorem BdAt.cells {w : World} {B : Nat} {t0 t1 d0 d1 : Int} (h : BdAt w B t0 t1 d0 d1) : w.cell? ⟨B, 0, none⟩ = some (.int .i64 t0) ∧ w.cell? ⟨B, 1, none⟩ = some (.int .i64 t1) ∧ w.cell? ⟨B, 2, none⟩ = some (.int .i64 d0) ∧ w.cell? ⟨B, 3, none⟩ = some (.int .i64 d1) :=
  ⟨h.cell (i := 0) (by omega), h.cell (i := 1) (by omega), h.cell (i := 2) (by omega), h.cell (i := 3) (by omega)⟩
theorem BdAt.boxed (w : World) (t0 t1 d0 d1 : Int) : BdAt (w.alloc (.cells #[.int .i64 t0, .int .i64 t1, .int .i64 d0, .int .i64 d1] 23)) w.heap.size t0 t1 d0 d1 :=
  World.rowIs_alloc w #[.int .i64 t0, .int .i64 t1, .int .i64 d0, .int .i64 d1] _ _ (fun i hi => by
    have : i < 4 := hi
    have : i = 0 ∨ i = 1 ∨ i = 2 ∨ i = 3 := by omega
    rcases this with rfl | rfl | rfl | rfl <;> rfl)
theorem BdAt.set0 {w : World} {B : Nat} {t0 t1 d0 d1 : Int} (h : BdAt w B t0 t1 d0 d1) (x : Int) : BdAt (w.setCell ⟨B, 0, none⟩ (.int .i64 x)) B x t1 d0 d1 := (World.rowIs.set h 0 _).congr (fun i hi => by
  have : i = 0 ∨ i = 1 ∨ i = 2 ∨ i = 3 := by omega
  rcases this with rfl | rfl | rfl | rfl <;> rfl)
theorem BdAt.set1 {w : World} {B : Nat} {t0 t1 d0 d1 : Int} (h : BdAt w B t0 t1 d0 d1) (x : Int) : BdAt (w.setCell ⟨B, 1, none⟩ (.int .i64 x)) B t0 x d0 d1 := (World.rowIs.set h 1 _).congr (fun i hi => by
  have : i = 0 ∨ i = 1 ∨ i = 2 ∨ i = 3 := by omega
  rcases this with rfl | rfl | rfl | rfl <;> rfl)
theorem BdAt.set2 {w : World} {B : Nat} {t0 t1 d0 d1 : Int} (h : BdAt w B t0 t1 d0 d1) (x : Int) : BdAt (w.setCell ⟨B, 2, none⟩ (.int .i64 x)) B t0 t1 x d1 := (World.rowIs.set h 2 _).congr (fun i hi => by
  have : i = 0 ∨ i = 1 ∨ i = 2 ∨ i = 3 := by omega
  rcases this with rfl | rfl | rfl | rfl <;> rfl)
theorem BdAt.set3 {w : World} {B : Nat} {t0 t1 d0 d1 : Int} (h : BdAt w B t0 t1 d0 d1) (x : Int) : BdAt (w.setCell ⟨B, 3, none⟩ (.int .i64 x)) B t0 t1 d0 x := (World.rowIs.set h 3 _).congr (fun i hi => by
  have : i = 0 ∨ i = 1 ∨ i = 2 ∨ i = 3 := by omega
  rcases this with rfl | rfl | rfl | rfl <;> rfl)
theorem BdAt.other {w : World} {B : Nat} {t0 t1 d0 d1 : Int} (h : BdAt w B t0 t1 d0 d1) (a : Addr) (hne : B ≠ a.block) (x : Value) : BdAt (w.setCell a x) B t0 t1 d0 d1 := World.rowIs.setOther h hne x
def bnd0 (a : Int) : Nat := 1 + pickN a 1000000
def bnd1 (a b : Int) : Nat := bnd0 a + pickN b (1000000 - bnd0 a + 1)
def bnd3 (a c : Int) : Nat := pickN c (bnd0 a)
def bnd2 (a c d : Int) : Nat := pickN d (bnd3 a c + 1)
def bndF (a b c d : Int) : BdF := ⟨(bnd0 a : Int), (bnd1 a b : Int), (bnd2 a c d : Int), (bnd3 a c : Int)⟩
theorem bnd_fit (a b c d : Int) : (1 ≤ bnd0 a ∧ bnd0 a ≤ 1000000) ∧ (bnd0 a ≤ bnd1 a b ∧ bnd1 a b ≤ 1000000) ∧ bnd2 a c d ≤ bnd3 a c ∧ bnd3 a c < bnd0 a := by
  have h1 := pickN_lt a (m := 1000000) (by omega)
  have h0 : 1 ≤ bnd0 a ∧ bnd0 a ≤ 1000000 := by unfold bnd0; omega
  have h2 := pickN_lt b (m := 1000000 - bnd0 a + 1) (by omega)
  have h3 := pickN_lt c (m := bnd0 a) (by omega)
  have h4 := pickN_lt d (m := bnd3 a c + 1) (by omega)
  refine ⟨h0, ?_, ?_, ?_⟩
  · unfold bnd1; omega
  · unfold bnd2; omega
  · unfold bnd3; exact h3
set_option maxHeartbeats 4000000 in
set_option maxRecDepth 100000 in
theorem bounds_any (a b c d : Int) (ha : -9223372036854775808 ≤ a ∧ a ≤ 9223372036854775807) (hb : -9223372036854775808 ≤ b ∧ b ≤ 9223372036854775807) (hc : -9223372036854775808 ≤ c ∧ c ≤ 9223372036854775807) (hd : -9223372036854775808 ≤ d ∧ d ≤ 9223372036854775807) (w : World) :
    Calls Try.prog 27 #[.int .i64 a, .int .i64 b, .int .i64 c, .int .i64 d] w fun e w' => e = .returned (bndF a b c d).val ∧ Below w.heap.size w w' := by
  obtain ⟨⟨f1, f2⟩, ⟨f3, f4⟩, f5, f6⟩ := bnd_fit a b c d
  have P1 := hide (fun W => pick_any a 1000000 W ha.1 ha.2 (by omega) (by omega))
  have P2 := hide (fun W => pick_any b (1000000 - bnd0 a + 1) W hb.1 hb.2 (by omega) (by omega))
  have P3 := hide (fun W => pick_any c (bnd0 a) W hc.1 hc.2 (by omega) (by omega))
  have P4 := hide (fun W => pick_any d (bnd3 a c + 1) W hd.1 hd.2 (by omega) (by omega))
  have HF : Hid ((bndF a b c d).val = .agg #[.int .i64 (bnd0 a : Int), .int .i64 (bnd1 a b : Int), .int .i64 (bnd2 a c d : Int), .int .i64 (bnd3 a c : Int)]) := hide rfl
  have e1 : IntKind.i64.wrap (1 + (pickN a 1000000 : Int)) = (bnd0 a : Int) := by rw [IntKind.wrap_i64]; have : ((bnd0 a : Nat) : Int) = 1 + (pickN a 1000000 : Int) := by unfold bnd0; omega
                                                                                  omega
  have e2 : IntKind.i64.wrap (1000000 - (bnd0 a : Int)) = 1000000 - (bnd0 a : Int) := by rw [IntKind.wrap_i64]; omega
  have e3 : IntKind.i64.wrap (1000000 - (bnd0 a : Int) + 1) = ((1000000 - bnd0 a + 1 : Nat) : Int) := by rw [IntKind.wrap_i64]; omega
  have e4 : IntKind.i64.wrap ((bnd0 a : Int) + (pickN b (1000000 - bnd0 a + 1) : Int)) = (bnd1 a b : Int) := by
    have : ((bnd1 a b : Nat) : Int) = (bnd0 a : Int) + (pickN b (1000000 - bnd0 a + 1) : Int) := by unfold bnd1; omega
    rw [IntKind.wrap_i64]; omega
  have e5 : IntKind.i64.wrap ((bnd3 a c : Int) + 1) = ((bnd3 a c + 1 : Nat) : Int) := by rw [IntKind.wrap_i64]; omega
  rw [HF.out]
  have h3 : pickN c (bnd0 a) = bnd3 a c := rfl
  have h2 : pickN d (bnd3 a c + 1) = bnd2 a c d := rfl
  rw [h3] at P3
  rw [h2] at P4
  generalize pickN a 1000000 = p1 at *
  generalize pickN b (1000000 - bnd0 a + 1) = p2 at *
  generalize bnd2 a c d = t2 at *
  generalize bnd3 a c = t3 at *
  generalize bnd1 a b = t1 at *
  generalize bnd0 a = t0 at *
  clear h3 h2 ha hb hc hd HF
  obtain ⟨w0, hw0⟩ : ∃ w0, w0 = (w.alloc (.cells #[.int .i64 0, .int .i64 0, .int .i64 0, .int .i64 0] 23)).alloc (.cells #[.int .i64 0, .int .i64 0, .int .i64 0, .int .i64 0] 23) := ⟨_, rfl⟩
  have hR0 : BdAt w0 w.heap.size 0 0 0 0 := by rw [hw0]; exact World.rowIs.alloc (BdAt.boxed w 0 0 0 0) _
  have hT0 : BdAt w0 (w.heap.size + 1) 0 0 0 0 := by
    have := BdAt.boxed (w.alloc (.cells #[.int .i64 0, .int .i64 0, .int .i64 0, .int .i64 0] 23)) 0 0 0 0
    simp only [World.size_alloc] at this
    rw [hw0]; exact this
  have hB0 : Below w.heap.size w w0 := by rw [hw0]; exact ((Below.refl _ _).alloc (Nat.le_refl _) _).alloc (by simp) _
  have HW0 := hide hw0
  have x0 := hT0.cells.1
  have y0 := World.rowIs.frozen hT0 0
  obtain ⟨w1, hw1⟩ : ∃ w1, w1 = w0.setCell ⟨w.heap.size + 1, 0, none⟩ (.int .i64 (t0 : Int)) := ⟨_, rfl⟩
  have hT1 : BdAt w1 (w.heap.size + 1) t0 0 0 0 := by rw [hw1]; exact hT0.set0 _
  have hR1 : BdAt w1 w.heap.size 0 0 0 0 := by rw [hw1]; exact hR0.other _ (by show w.heap.size ≠ w.heap.size + 1; omega) _
  have hB1 : Below w.heap.size w w1 := by rw [hw1]; exact hB0.setCell (by show w.heap.size ≤ w.heap.size + 1; omega) _
  have HW1 := hide hw1
  obtain ⟨w2, hw2⟩ : ∃ w2, w2 = (w1.setCell ⟨w.heap.size + 1, 1, none⟩ (.int .i64 (t1 : Int))).drew := ⟨_, rfl⟩
  have hT2 : BdAt w2 (w.heap.size + 1) t0 t1 0 0 := by rw [hw2]; exact World.rowIs.of_block (hT1.set1 _) rfl
  have hR2 : BdAt w2 w.heap.size 0 0 0 0 := by rw [hw2]; exact World.rowIs.of_block (hR1.other _ (by show w.heap.size ≠ w.heap.size + 1; omega) _) rfl
  have hB2 : Below w.heap.size w w2 := by rw [hw2]; exact (hB1.setCell (by show w.heap.size ≤ w.heap.size + 1; omega) _).drew
  have HW2 := hide hw2
  have k0 : (w1.setCell ⟨w.heap.size + 1, 1, none⟩ (.int .i64 (t1 : Int))).drew.cell? ⟨w.heap.size + 1, 0, none⟩ = some (.int .i64 (t0 : Int)) := by rw [← hw2]; exact hT2.cells.1
  obtain ⟨w3, hw3⟩ : ∃ w3, w3 = w2.setCell ⟨w.heap.size + 1, 3, none⟩ (.int .i64 (t3 : Int)) := ⟨_, rfl⟩
  have hT3 : BdAt w3 (w.heap.size + 1) t0 t1 0 t3 := by rw [hw3]; exact hT2.set3 _
  have hR3 : BdAt w3 w.heap.size 0 0 0 0 := by rw [hw3]; exact hR2.other _ (by show w.heap.size ≠ w.heap.size + 1; omega) _
  have hB3 : Below w.heap.size w w3 := by rw [hw3]; exact hB2.setCell (by show w.heap.size ≤ w.heap.size + 1; omega) _
  have HW3 := hide hw3
  obtain ⟨w4, hw4⟩ : ∃ w4, w4 = w3.setCell ⟨w.heap.size + 1, 2, none⟩ (.int .i64 (t2 : Int)) := ⟨_, rfl⟩
  have hT4 : BdAt w4 (w.heap.size + 1) t0 t1 t2 t3 := by rw [hw4]; exact hT3.set2 _
  have hR4 : BdAt w4 w.heap.size 0 0 0 0 := by rw [hw4]; exact hR3.other _ (by show w.heap.size ≠ w.heap.size + 1; omega) _
  have hB4 : Below w.heap.size w w4 := by rw [hw4]; exact hB3.setCell (by show w.heap.size ≤ w.heap.size + 1; omega) _
  have HW4 := hide hw4
  obtain ⟨a0, a1, a2, a3⟩ := hT1.cells
  have fa1 := World.rowIs.frozen hT1 1
  obtain ⟨b0, b1, b2, b3⟩ := hT2.cells
  have fb3 := World.rowIs.frozen hT2 3
  obtain ⟨c0, c1, c2, c3⟩ := hT3.cells
  have fc2 := World.rowIs.frozen hT3 2
  obtain ⟨d0, d1, d2, d3⟩ := hT4.cells
  obtain ⟨r0, r1, r2, r3⟩ := hR4.cells
  have HR4 := hide hR4
  have HB4 := hide hB4
  have fr := World.rowIs.frozen hR4
  clear hw0 hw1 hw2 hw3 hw4 hT0 hT1 hT2 hT3 hT4 hR0 hR1 hR2 hR3 hR4 hB0 hB1 hB2 hB3 hB4
  go_enter Try.func27, Try.ntmps27
  go_wp2_with fail
  rw [← HW0.out]
  refine (P1.out w0).mono ?_
  rintro e wx ⟨rfl, rfl⟩
  go_wp2_with fail
  rw [← HW1.out]
  go_region_held3 (fun w' => w'.cell? ⟨w.heap.size + 1, 0, none⟩ = some (.int .i64 (t0 : Int))) (first | go_keep | exact k0)
    ((go_at_call 18; refine (P2.out _).mono ?_; rintro e wx ⟨rfl, rfl⟩))
  rw [← HW2.out]
  go_wp2_with fail
  refine (P3.out w2).mono ?_
  rintro e wx ⟨rfl, rfl⟩
  go_wp2_with fail
  rw [← HW3.out]
  refine (P4.out w3).mono ?_
  rintro e wx ⟨rfl, rfl⟩
  rw [HW4.out] at d0 d1 d2 d3 r0 r1 r2 r3 fr
  clear a0 a1 a2 a3 b0 b1 b2 b3 x0 y0 fa1 fb3 k0
  go_wp2
  have hf : BdAt (((((w3.setCell ⟨w.heap.size + 1, 2, none⟩ (.int .i64 (t2 : Int))).setCell ⟨w.heap.size, 0, none⟩ (.int .i64 (t0 : Int))).setCell ⟨w.heap.size, 1, none⟩ (.int .i64 (t1 : Int))).setCell ⟨w.heap.size, 2, none⟩ (.int .i64 (t2 : Int))).setCell ⟨w.heap.size, 3, none⟩ (.int .i64 (t3 : Int))) w.heap.size t0 t1 t2 t3 := by
    rw [← HW4.out]
    exact (((HR4.out.set0 _).set1 _).set2 _).set3 _
  obtain ⟨g0, g1, g2, g3⟩ := hf.cells
  refine bodyPost_ret (v := .agg #[.int .i64 (t0 : Int), .int .i64 (t1 : Int), .int .i64 (t2 : Int), .int .i64 (t3 : Int)]) (by simp [results, Try.results27, go_sem, g0, g1, g2, g3]) rfl ?_
  refine ⟨rfl, ?_⟩
  rw [← HW4.out]
  exact (((HB4.out.setCell (Nat.le_refl _) _).setCell (Nat.le_refl _) _).setCell (Nat.le_refl _) _).setCell (Nat.le_refl _) _
end Go.Proofs.Ytmndgoapkmhglab
