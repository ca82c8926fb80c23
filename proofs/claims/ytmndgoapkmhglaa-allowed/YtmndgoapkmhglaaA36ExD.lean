import Derived.Test.YtmndgoapkmhglaaA32HeldT
import Derived.Test.YtmndgoapkmhglaaA34ExB
import Derived.Test.YtmndgoapkmhglaaA35ExC
/- Exec: the document's own machine. -/
namespace Go.Proofs.Ytmndgoapkmhglaa
open Go.RowKit
attribute [local go_sem ↓] Go.wp_at_zero Go.wp_at_succ

theorem own_wk {w : World} {B B' : Nat} {e : TypeId} {size n : Nat} {v : Value} {xs : List Value} (h : w.ownsRow B e size v n xs) (hb : B' ≤ B) : w.ownsRow B' e size v n xs := by
  refine ⟨h.1, ?_⟩
  rcases h.2 with h0 | ⟨g, cap, cur, h1, h2, h3⟩
  · exact .inl h0
  · exact .inr ⟨g, cap, cur, h1, Nat.le_trans hb h2, h3⟩
theorem iCells_snoc (l : List Int) (x : Int) : iCells (l ++ [x]) = iCells l ++ [.int .i64 x] := by simp [iCells]
theorem own_rowN {B : Nat} {w : World} {v : Value} {n : Nat} {xs : List Int} (h : w.ownsRow B 3 1 v n (iCells xs)) (hn : n ≤ 1000000) (hl : xs.length = n) : RowAt w v xs := by
  rcases h.2 with ⟨rfl, h0⟩ | ⟨g, cap, cur, rfl, hb, hg, h1, h2, h3, h4⟩
  · exact ⟨none, 0, by rw [hl, h0], by omega, fun hp => by omega⟩
  · refine ⟨_, _, by rw [hl], by omega, fun hp => ⟨g, 0, rfl, (Array.getElem?_eq_some_iff.1 hg).1, fun c hc => ?_⟩⟩
    rw [Nat.zero_add, h.cellAt c (by omega), iCells_get, List.getElem?_eq_getElem hc]; rfl

theorem atF_in {l : List Int} {i : Int} (h : regOk l.length i = true) : 0 ≤ i ∧ i < (l.length : Int) ∧ ∃ h : i.toNat < l.length, atF l i = l[i.toNat] := by
  unfold regOk at h
  simp only [Bool.and_eq_true, decide_eq_true_eq] at h
  refine ⟨h.1, h.2, by omega, ?_⟩
  unfold atF
  rw [if_neg (by omega), List.getD_eq_getElem?_getD, List.getElem?_eq_getElem (by omega)]; rfl

theorem formed_parts {c : CdF} (h : formedF c = true) : c.ops.length ≤ 1500 ∧ c.next.length ≤ 1500 ∧ c.out.length ≤ 1500 ∧ c.cells.length = c.next.length ∧ (∀ x ∈ c.next, regOk c.ops.length x = true) ∧ (∀ x ∈ c.out, regOk c.ops.length x = true) ∧ opsOk c.cells.length 0 c.ops = true := by
  unfold formedF at h
  simp only [Bool.and_eq_true, decide_eq_true_eq, List.all_eq_true] at h
  obtain ⟨⟨⟨⟨⟨⟨h1, h2⟩, h3⟩, h4⟩, h5⟩, h6⟩, h7⟩ := h
  exact ⟨h1, h2, h3, h4, h6, h7, h5⟩
theorem opsOk_at (nc : Nat) : ∀ (l : List OpF) (i : Nat), opsOk nc i l = true → ∀ k, (hk : k < l.length) → opOk nc (i + k) l[k] = true := by
  intro l
  induction l with
  | nil => intro i _ k hk; simp at hk
  | cons o r ih =>
    intro i h k hk
    simp only [opsOk, Bool.and_eq_true] at h
    cases k with
    | zero => exact h.1
    | succ k => have := ih (i + 1) h.2 k (by simpa using hk); rw [show i + (k + 1) = i + 1 + k by omega]; exact this
theorem op_kind {nc i : Nat} {o : OpF} (h : opOk nc i o = true) : 0 ≤ o.k ∧ o.k ≤ 14 := by
  unfold opOk at h
  simp only [Bool.and_eq_true, decide_eq_true_eq] at h
  exact ⟨h.1.1.1, h.1.1.2⟩

set_option maxHeartbeats 8000000 in
set_option maxRecDepth 100000 in
theorem rExec_any (w : World) (vO vC vN vU : Value) (c : CdF) (h : CodeAt w vO vC vN vU c) (n : Int) (vc vi vl : Value) (cells ins links : List Int) (hc : RowAt w vc cells) (hi : RowAt w vi ins) (hl : RowAt w vl links) :
    Calls Try.prog 35 #[.agg #[vO, vC, vN, vU], .int .i64 n, vc, vi, vl] w fun e w' => ∃ vo vn, e = .returned (.tuple #[vo, vn, .int .i64 ((execF c n cells ins links).1 : Nat)]) ∧
      w'.ownsRow w.heap.size 3 1 vo (execF c n cells ins links).2.1.length (iCells (execF c n cells ins links).2.1) ∧ w'.ownsRow w.heap.size 3 1 vn (execF c n cells ins links).2.2.length (iCells (execF c n cells ins links).2.2) ∧ (execF c n cells ins links).2.1.length ≤ 1500 ∧ (execF c n cells ins links).2.2.length ≤ 1500 ∧ Below w.heap.size w w' := by
  obtain ⟨i0, hi0, hz0, hz1, hz2⟩ := info_parts Try.infoInt
  have HH := hide h
  have HCE := hide hc
  have HIN := hide hi
  have HLK := hide hl
  obtain ⟨Ao, Co, rfl, hmo, hco⟩ := h.ops
  obtain ⟨Ac, Cc, rfl, hmc, hcc⟩ := h.cells
  obtain ⟨An, Cn, rfl, hmn, hcn⟩ := h.next
  obtain ⟨Au, Cu, rfl, hmu, hcu⟩ := h.out
  obtain ⟨bx, hbx⟩ : ∃ bx, bx = w.alloc (.cells #[.slice Ao c.ops.length Co, .slice Ac c.cells.length Cc, .slice An c.next.length Cn, .slice Au c.out.length Cu] 60) := ⟨_, rfl⟩
  have HB0 : Hid (Below w.heap.size w bx) := hide (by rw [hbx]; exact (Below.refl _ _).alloc (Nat.le_refl _) _)
  have HSZ : Hid (w.heap.size < bx.heap.size) := hide (by rw [hbx]; simp)
  have HC : Hid (∀ W, Below bx.heap.size bx W → W.cell? ⟨w.heap.size, 0, none⟩ = some (.slice Ao c.ops.length Co) ∧ W.cell? ⟨w.heap.size, 1, none⟩ = some (.slice Ac c.cells.length Cc) ∧ W.cell? ⟨w.heap.size, 2, none⟩ = some (.slice An c.next.length Cn) ∧ W.cell? ⟨w.heap.size, 3, none⟩ = some (.slice Au c.out.length Cu)) := hide (fun W hW => by
    have hN : W.heap[w.heap.size]? = some (.cells #[.slice Ao c.ops.length Co, .slice Ac c.cells.length Cc, .slice An c.next.length Cn, .slice Au c.out.length Cu] 60) := (hW.block w.heap.size HSZ.out).trans (by rw [hbx]; exact heap_alloc_new w _)
    exact ⟨by rw [cell_of_row W _ 0 _ _ _ hN]; rfl, by rw [cell_of_row W _ 1 _ _ _ hN]; rfl, by rw [cell_of_row W _ 2 _ _ _ hN]; rfl, by rw [cell_of_row W _ 3 _ _ _ hN]; rfl⟩)
  have HFM := hide (rformed_any bx _ _ _ _ c (HH.out.below HB0.out))
  obtain ⟨Az, Cz, rfl, hmz, _⟩ := hc
  obtain ⟨Ai, Ci, rfl, _, _⟩ := hi
  obtain ⟨Al, Cl, rfl, _, _⟩ := hl
  have HEX : Hid (execF c n cells ins links = if formedF c = false then (9, [], []) else if n < 0 ∨ cells.length ≠ c.cells.length then (10, [], []) else (0, c.out.map (atF (regsF n cells ins links [] c.ops)), c.next.map (atF (regsF n cells ins links [] c.ops)))) := hide rfl
  have HCO := hide hco
  have HCN := hide hcn
  have HCU := hide hcu
  clear hco hcc hcn hcu h
  go_enter Try.func35, Try.ntmps35
  go_wp2_with fail
  rw [← hbx]
  clear hbx
  refine HFM.out.mono ?_
  rintro e w1 ⟨rfl, hb1⟩
  have HB1 := hide hb1
  clear hb1 HFM
  obtain ⟨x0, x1, x2, x3⟩ := HC.out w1 HB1.out
  by_cases hf : formedF c = true
  case neg =>
    have hff : formedF c = false := by simpa using hf
    have HE : Hid (execF c n cells ins links = (9, [], [])) := hide (by rw [HEX.out, if_pos hff])
    rw [hff]
    clear hf hff HEX
    go_wp2
    go_ret3
    rw [HE.out]
    exact ⟨_, _, rfl, World.ownsRow_nil _ _ _ _, World.ownsRow_nil _ _ _ _, Nat.zero_le _, Nat.zero_le _, HB0.out.trans (HB1.out.mono HB0.out.size)⟩
  case pos =>
    rw [hf]
    by_cases ha : n < 0 ∨ cells.length ≠ c.cells.length
    · have HE : Hid (execF c n cells ins links = (10, [], [])) := hide (by rw [HEX.out, if_neg (by rw [hf]; decide), if_pos ha])
      have hcs : n < 0 ∨ (¬ n < 0 ∧ ((cells.length : Int) != (c.cells.length : Int)) = true) := by
        by_cases h : n < 0
        · exact .inl h
        · right; refine ⟨h, ?_⟩; rw [bne_iff_ne]; rcases ha with h' | h' <;> omega
      clear hf HEX ha
      rcases hcs with z1 | ⟨z1, z2⟩
      all_goals
        go_wp2
        go_ret3
        rw [HE.out]
        exact ⟨_, _, rfl, World.ownsRow_nil _ _ _ _, World.ownsRow_nil _ _ _ _, Nat.zero_le _, Nat.zero_le _, HB0.out.trans (HB1.out.mono HB0.out.size)⟩
    · have HE : Hid (execF c n cells ins links = (0, c.out.map (atF (regsF n cells ins links [] c.ops)), c.next.map (atF (regsF n cells ins links [] c.ops)))) := hide (by rw [HEX.out, if_neg (by rw [hf]; decide), if_neg ha])
      have z1 : ¬ n < 0 := fun h => ha (.inl h)
      have z2 : ((cells.length : Int) != (c.cells.length : Int)) = false := by
        by_cases h : cells.length = c.cells.length
        · rw [h]; simp
        · exact absurd (.inr h) ha
      obtain ⟨p1, p2, p3, p4, p5, p6, p7⟩ := formed_parts hf
      have HPN := hide p5
      have HPO := hide p6
      have HOK := hide p7
      have HRL := hide (fun k => regsF_len n cells ins links (c.ops.take k) [])
      clear hf ha HEX p4 p5 p6 p7
      go_wp2
      go_loopw [14, 17] (fun vR vk wr => ∃ k : Nat, k ≤ c.ops.length ∧ vk = .int .i64 k ∧ wr.ownsRow bx.heap.size 3 1 vR k (iCells (regsF n cells ins links [] (c.ops.take k))) ∧ Below bx.heap.size bx wr) (fun _ vk _ => c.ops.length - (intOf vk).toNat)
      case atStart => exact ⟨0, Nat.zero_le _, rfl, World.ownsRow_nil _ _ _ _, HB1.out⟩
      case round =>
        clear x0 x1 x2 x3
        obtain ⟨k, hk, rfl, hown, hbr⟩ := hrel
        obtain ⟨aR, cR, rfl, hshR⟩ := own_shape hown
        obtain ⟨x0, x1, x2, x3⟩ := HC.out wr hbr
        have HBR := hide hbr
        have HBW := hide (HB0.out.trans (hbr.mono HB0.out.size))
        have hrl : (regsF n cells ins links [] (c.ops.take k)).length = k := by rw [HRL.out k, List.length_take]; simp; omega
        by_cases hkl : k < c.ops.length
        · obtain ⟨b, o, rfl, hbl, hcell⟩ := HCO.out (by omega)
          obtain ⟨op, hop⟩ : ∃ op, op = c.ops[k]'hkl := ⟨_, rfl⟩
          obtain ⟨c0, c1, c2, c3⟩ := hcell k hkl
          rw [← hop] at c0 c1 c2 c3
          have d0 := (HBW.out.cell (p := ⟨b, o + k * 4, none⟩) hbl).trans c0
          have d1 := (HBW.out.cell (p := ⟨b, o + k * 4 + 1, none⟩) hbl).trans c1
          have d2 := (HBW.out.cell (p := ⟨b, o + k * 4 + 2, none⟩) hbl).trans c2
          have d3 := (HBW.out.cell (p := ⟨b, o + k * 4 + 3, none⟩) hbl).trans c3
          have hkd := op_kind (by have := opsOk_at _ _ 0 HOK.out k hkl; rwa [Nat.zero_add, ← hop] at this)
          have HSN : Hid (regsF n cells ins links [] (c.ops.take (k + 1)) = regsF n cells ins links [] (c.ops.take k) ++ [laysF op n (regsF n cells ins links [] (c.ops.take k)) cells ins links]) := hide (by
            rw [List.take_succ_eq_append_getElem hkl, regsF_snoc, ← hop])
          have HOWN := hide hown
          have HCALL : Hid (∀ W, Below wr.heap.size wr W → Calls Try.prog 59 #[op.val, .int .i64 n, .slice aR k cR, .slice Az cells.length Cz, .slice Ai ins.length Ci, .slice Al links.length Cl] W fun e w' => e = .returned (.int .i64 (laysF op n (regsF n cells ins links [] (c.ops.take k)) cells ins links)) ∧ Below W.heap.size W w') := hide (fun W hW => by
            have hWw : Below w.heap.size w W := HBW.out.trans (hW.mono HBW.out.size)
            exact rlays_any W op hkd n _ _ _ _ _ _ _ _ (own_rowN (bel_own HOWN.out hW) (by omega) hrl) (HCE.out.below hWw) (HIN.out.below hWw) (HLK.out.below hWw))
          generalize regsF n cells ins links [] (c.ops.take k) = rg at HSN HOWN HCALL hown hrl
          generalize laysF op n rg cells ins links = lv at HSN HCALL
          obtain ⟨ok, oa, ob, oc⟩ := op
          simp only [OpF.val] at HCALL
          simp only at d0 d1 d2 d3
          have j3 : (0 : Int) ≤ (k : Int) := by omega
          have j4 : (k : Int) < (c.ops.length : Int) := by omega
          clear hcell c0 c1 c2 c3 hop hkd hbr hown hshR
          go_wp2_with fail
          refine (HCALL.out wr (Below.refl _ _)).mono ?_
          rintro e w5 ⟨rfl, hb5⟩
          have hown5 := bel_own HOWN.out hb5
          have HB5 := hide (HBR.out.trans (hb5.mono HBR.out.size))
          have hs5 := HB5.out.size
          clear hb5 HCALL d0 d1 d2 d3 x0 x1 x2 x3
          go_wp2_with (at_builtin; refine wpList_append_lies _ rfl _ _ _ rfl bx.heap.size 3 i0 _ 1 8 Try.underlying48 hi0 hz0 hz1 hz2 rfl (by omega) _ k (iCells rg) rfl (hown5.alloc _) ⟨w5.heap.size, 0, none⟩ 1 1 [.int .i64 lv] rfl rfl (World.news_of_block (cs := #[.int .i64 lv]) (t := 3) (fr := (0, 0)) (heap_alloc_new w5 _)) (by simp [Value.oneCell']) (by omega) (by unfold maxLen; omega) (by omega) (by simp; omega) (w5.heap.size + 1) (by simp) ?_; intro gg cap2 w6 hown6 hgrow hat hlt6)
          go_roundw
          case rel => exact ⟨k + 1, by omega, by go_num, by rw [HSN.out, iCells_snoc]; exact hown6, (HB5.out.alloc HB5.out.size _).grown hgrow (by simp; omega) (fun j hj => ownBlock_ge hown5 j hj)⟩
          case measure => simp [intOf]; omega
        · have ek : k = c.ops.length := by omega
          subst ek
          have z9 : ¬ (c.ops.length : Int) < (c.ops.length : Int) := by omega
          rw [List.take_length] at hown hrl
          have HRG := hide hown
          generalize regsF n cells ins links [] c.ops = rg at HE HRG hown hrl
          have HSR := hide hshR
          have HRL2 := hide hrl
          clear hown hshR hbr HRL
          rename World => wq
          go_wp2
          go_loopw [15, 19] (fun vo vj wx => ∃ j : Nat, j ≤ c.out.length ∧ vj = .int .i64 j ∧ wx.ownsRow wq.heap.size 3 1 vo j (iCells ((c.out.take j).map (atF rg))) ∧ Below wq.heap.size wq wx) (fun _ vj _ => c.out.length - (intOf vj).toNat)
          case atStart => exact ⟨0, Nat.zero_le _, rfl, World.ownsRow_nil _ _ _ _, by first | exact Below.refl _ _ | exact below_drewN (Below.refl _ _) _⟩
          case round =>
            clear x0 x1 x2 x3
            obtain ⟨j, hj, rfl, hown, hbj⟩ := hrel
            have HBX := hide (HBR.out.trans (hbj.mono HBR.out.size))
            have HBW2 := hide (HBW.out.trans (hbj.mono HBW.out.size))
            obtain ⟨x0, x1, x2, x3⟩ := HC.out wr HBX.out
            have HBJ := hide hbj
            have hsj := hbj.size
            by_cases hjl : j < c.out.length
            · obtain ⟨b, o, rfl, hbl, hcell⟩ := HCU.out (by omega)
              have d0 := (HBW2.out.cell (p := ⟨b, o + j, none⟩) hbl).trans (hcell j hjl)
              have hreg := HPO.out c.out[j] (List.getElem_mem hjl)
              obtain ⟨t1, t2, t3, t4⟩ := atF_in (l := rg) (by rw [HRL2.out]; exact hreg)
              rw [HRL2.out] at t2
              obtain ⟨gR, rfl, _, hgR⟩ := HSR.out (by omega)
              have HSN : Hid (iCells ((c.out.take (j + 1)).map (atF rg)) = iCells ((c.out.take j).map (atF rg)) ++ [.int .i64 (atF rg c.out[j])]) := hide (by
                rw [List.take_succ_eq_append_getElem hjl, List.map_append, List.map_singleton, iCells_snoc])
              have e0 : wr.cell? ⟨gR, (c.out[j]).toNat, none⟩ = some (.int .i64 (atF rg c.out[j])) := by
                rw [hbj.cell (p := ⟨gR, (c.out[j]).toNat, none⟩) hgR, HRG.out.cellAt _ (by omega), iCells_get, List.getElem?_eq_getElem t3, t4]; rfl
              obtain ⟨q, hq⟩ : ∃ q : Nat, c.out[j] = (q : Int) := ⟨(c.out[j]).toNat, by omega⟩
              rw [hq] at d0 e0 t1 t2 HSN
              rw [show ((q : Int)).toNat = q by omega] at e0
              generalize atF rg (q : Int) = lv at e0 HSN
              have i1 : (0 : Int) ≤ (j : Int) := by omega
              have i2 : (j : Int) < (c.out.length : Int) := by omega
              clear hcell hreg t3 t4 hq hbj
              go_wp2_with (at_builtin; refine wpList_append_lies _ rfl _ _ _ rfl wq.heap.size 3 i0 _ 1 8 Try.underlying48 hi0 hz0 hz1 hz2 rfl (by omega) _ j (iCells ((c.out.take j).map (atF rg))) rfl (hown.alloc _) ⟨wr.heap.size, 0, none⟩ 1 1 [.int .i64 lv] rfl rfl (World.news_of_block (cs := #[.int .i64 lv]) (t := 3) (fr := (0, 0)) (heap_alloc_new wr _)) (by simp [Value.oneCell']) (by omega) (by unfold maxLen; omega) (by omega) (by simp; omega) (wr.heap.size + 1) (by simp) ?_; intro gg cap2 w6 hown6 hgrow hat hlt6)
              go_roundw
              case rel => exact ⟨j + 1, by omega, by go_num, by rw [HSN.out]; exact hown6, (HBJ.out.alloc HBJ.out.size _).grown hgrow (by simp; omega) (fun i hi => ownBlock_ge hown i hi)⟩
              case measure => simp [intOf]; omega
            · have ej : j = c.out.length := by omega
              subst ej
              have z8 : ¬ (c.out.length : Int) < (c.out.length : Int) := by omega
              rw [List.take_length] at hown
              obtain ⟨ao, co, rfl, _⟩ := own_shape hown
              have HOO := hide hown
              clear hown hbj
              rename World => wz
              go_wp2
              go_loopw [16, 20] (fun vn vj wx => ∃ j : Nat, j ≤ c.next.length ∧ vj = .int .i64 j ∧ wx.ownsRow wz.heap.size 3 1 vn j (iCells ((c.next.take j).map (atF rg))) ∧ Below wz.heap.size wz wx) (fun _ vj _ => c.next.length - (intOf vj).toNat)
              case atStart => exact ⟨0, Nat.zero_le _, rfl, World.ownsRow_nil _ _ _ _, by first | exact Below.refl _ _ | exact below_drewN (Below.refl _ _) _⟩
              case round =>
                clear x0 x1 x2 x3
                obtain ⟨j, hj, rfl, hown, hbj⟩ := hrel
                have HBX3 := hide (HBX.out.trans (hbj.mono HBX.out.size))
                have HBW3 := hide (HBW2.out.trans (hbj.mono HBW2.out.size))
                have hbq : Below wq.heap.size wq wr := HBJ.out.trans (hbj.mono HBJ.out.size)
                obtain ⟨x0, x1, x2, x3⟩ := HC.out wr HBX3.out
                have HBK := hide hbj
                have hsj2 := hbj.size
                by_cases hjl : j < c.next.length
                · obtain ⟨b, o, rfl, hbl, hcell⟩ := HCN.out (by omega)
                  have d0 := (HBW3.out.cell (p := ⟨b, o + j, none⟩) hbl).trans (hcell j hjl)
                  have hreg := HPN.out c.next[j] (List.getElem_mem hjl)
                  obtain ⟨t1, t2, t3, t4⟩ := atF_in (l := rg) (by rw [HRL2.out]; exact hreg)
                  rw [HRL2.out] at t2
                  obtain ⟨gR, rfl, _, hgR⟩ := HSR.out (by omega)
                  have HSN : Hid (iCells ((c.next.take (j + 1)).map (atF rg)) = iCells ((c.next.take j).map (atF rg)) ++ [.int .i64 (atF rg c.next[j])]) := hide (by
                    rw [List.take_succ_eq_append_getElem hjl, List.map_append, List.map_singleton, iCells_snoc])
                  have e0 : wr.cell? ⟨gR, (c.next[j]).toNat, none⟩ = some (.int .i64 (atF rg c.next[j])) := by
                    rw [hbq.cell (p := ⟨gR, (c.next[j]).toNat, none⟩) hgR, HRG.out.cellAt _ (by omega), iCells_get, List.getElem?_eq_getElem t3, t4]; rfl
                  obtain ⟨q, hq⟩ : ∃ q : Nat, c.next[j] = (q : Int) := ⟨(c.next[j]).toNat, by omega⟩
                  rw [hq] at d0 e0 t1 t2 HSN
                  rw [show ((q : Int)).toNat = q by omega] at e0
                  generalize atF rg (q : Int) = lv at e0 HSN
                  have i1 : (0 : Int) ≤ (j : Int) := by omega
                  have i2 : (j : Int) < (c.next.length : Int) := by omega
                  clear hcell hreg t3 t4 hq hbj hbq
                  go_wp2_with (at_builtin; refine wpList_append_lies _ rfl _ _ _ rfl wz.heap.size 3 i0 _ 1 8 Try.underlying48 hi0 hz0 hz1 hz2 rfl (by omega) _ j (iCells ((c.next.take j).map (atF rg))) rfl (hown.alloc _) ⟨wr.heap.size, 0, none⟩ 1 1 [.int .i64 lv] rfl rfl (World.news_of_block (cs := #[.int .i64 lv]) (t := 3) (fr := (0, 0)) (heap_alloc_new wr _)) (by simp [Value.oneCell']) (by omega) (by unfold maxLen; omega) (by omega) (by simp; omega) (wr.heap.size + 1) (by simp) ?_; intro gg cap2 w6 hown6 hgrow hat hlt6)
                  go_roundw
                  case rel => exact ⟨j + 1, by omega, by go_num, by rw [HSN.out]; exact hown6, (HBK.out.alloc HBK.out.size _).grown hgrow (by simp; omega) (fun i hi => ownBlock_ge hown i hi)⟩
                  case measure => simp [intOf]; omega
                · have ej : j = c.next.length := by omega
                  subst ej
                  have z7 : ¬ (c.next.length : Int) < (c.next.length : Int) := by omega
                  rw [List.take_length] at hown
                  have HNN := hide hown
                  have hle1 : w.heap.size ≤ wq.heap.size := HBW.out.size
                  have hle2 : w.heap.size ≤ wz.heap.size := HBW2.out.size
                  clear hown
                  go_wp2
                  go_ret3
                  rw [HE.out]
                  refine ⟨_, _, rfl, ?_, ?_, by simp; omega, by simp; omega, HBW3.out⟩
                  · rw [List.length_map]; exact own_wk (bel_own HOO.out HBK.out) hle1
                  · rw [List.length_map]; exact own_wk HNN.out hle2

end Go.Proofs.Ytmndgoapkmhglaa
