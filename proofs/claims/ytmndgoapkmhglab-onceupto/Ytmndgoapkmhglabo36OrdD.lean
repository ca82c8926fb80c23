import Derived.Test.Ytmndgoapkmhglabo35OpenT
namespace Go.Proofs.Ytmndgoapkmhglab
open Go.RowKit
attribute [local go_sem ↓] Go.wp_at_zero Go.wp_at_succ
theorem Try.infoIntO : (Try.prog.info? 3).map (fun i => (i.zero, i.size, i.bytes)) = some (some (.int .i64 0), 1, 8) := by kernel_rfl
def tCells (T : List Nat) : List Value := T.map fun (t : Nat) => Value.int .i64 (t : Int)
theorem tCells_snoc (T : List Nat) (t : Nat) : tCells (T ++ [t]) = tCells T ++ [.int .i64 (t : Int)] := by simp [tCells]
theorem own_eqb {w w' : World} {B e size n : Nat} {v : Value} {xs : List Value} (h : w.ownsRow B e size v n xs) (hk : ∀ b, v.ownBlock = some b → w'.heap[b]? = w.heap[b]?) : w'.ownsRow B e size v n xs := by
  refine ⟨h.1, ?_⟩
  rcases h.2 with h0 | ⟨g, cap, cur, rfl, hb, hg, h1⟩
  · exact .inl h0
  · exact .inr ⟨g, cap, cur, rfl, hb, (hk g rfl).trans hg, h1⟩
theorem own_wkO {w : World} {B B' e size n : Nat} {v : Value} {xs : List Value} (h : w.ownsRow B e size v n xs) (hb : B' ≤ B) : w.ownsRow B' e size v n xs := by
  refine ⟨h.1, ?_⟩
  rcases h.2 with h0 | ⟨g, cap, cur, hv, h1, hr⟩
  · exact .inl h0
  · exact .inr ⟨g, cap, cur, hv, Nat.le_trans hb h1, hr⟩
structure OrdS (w wr : World) (dq : Nat) (ds : List Dc) (R : Nat → Nat) (H : Mx) (T : List Nat) (v : Value) : Prop where
  bel : Below w.heap.size w wr
  mat : Mat wr w.heap.size ds.length R H
  done : wr.rowIs dq 4 ds.length (fun j => .bool (decide (j ∈ T)))
  own : wr.ownsRow (dq + 1) 3 1 v T.length (tCells T)
  eqn : ∀ t ∈ T, ∃ d, ds[t]? = some d ∧ d.kind ≠ 0
  topo : ∀ (j t : Nat), T[j]? = some t → ∀ b, H t b = true → b ∈ T.take j
  rlt : ∀ i, i < ds.length → R i < dq
  ge : w.heap.size < dq
theorem OrdS.alloc {w wr : World} {dq : Nat} {ds : List Dc} {R : Nat → Nat} {H : Mx} {T : List Nat} {v : Value} (h : OrdS w wr dq ds R H T v) (o : Obj) : OrdS w (wr.alloc o) dq ds R H T v :=
  ⟨h.bel.alloc h.bel.size _, h.mat.alloc o, h.done.alloc o, h.own.alloc o, h.eqn, h.topo, h.rlt, h.ge⟩
theorem OrdS.push {w wr w3 W : World} {dq : Nat} {ds : List Dc} {R : Nat → Nat} {H : Mx} {T : List Nat} {v v' : Value} (h : OrdS w wr dq ds R H T v) {i : Nat} {d : Dc} (hd : ds[i]? = some d) (hk : d.kind ≠ 0) (hb : ∀ b, H i b = true → b ∈ T)
    (hW : ∀ b, b < wr.heap.size → b ≠ dq → W.heap[b]? = wr.heap[b]?) (hWd : W.rowIs dq 4 ds.length (fun j => if j = i then .bool true else .bool (decide (j ∈ T)))) (hbW : Below w.heap.size w w3)
    (hg : ∀ b, b < W.heap.size → v.ownBlock ≠ some b → w3.heap[b]? = W.heap[b]?) (hWs : wr.heap.size ≤ W.heap.size) (hown : w3.ownsRow (dq + 1) 3 1 v' (T.length + 1) (tCells T ++ [.int .i64 (i : Int)])) : OrdS w w3 dq ds R H (T ++ [i]) v' := by
  have hnb : ∀ b, b ≤ dq → v.ownBlock ≠ some b := fun b hb e => by have := (h.own.lt _ e).1; omega
  have hdl : dq < wr.heap.size := World.rowIs.lt h.done
  have hkeep : ∀ b, b < dq → w3.heap[b]? = wr.heap[b]? := fun b hb => (hg b (by omega) (hnb b (by omega))).trans (hW b (by omega) (by omega))
  refine ⟨hbW, h.mat.keep (hkeep _ h.ge) (fun i hi => hkeep _ (h.rlt i hi)), ?_, ?_, ?_, ?_, h.rlt, h.ge⟩
  · refine (hWd.of_block (hg dq (by omega) (hnb dq (Nat.le_refl _)))).congr (fun j _ => ?_)
    by_cases e : j = i
    · subst e; simp
    · simp [e]
  · rw [tCells_snoc, List.length_append]; exact hown
  · intro t ht
    rcases List.mem_append.1 ht with ht | ht
    · exact h.eqn t ht
    · rw [List.mem_singleton] at ht; subst ht; exact ⟨d, hd, hk⟩
  · intro j t ht b hbt
    by_cases hj : j < T.length
    · rw [List.getElem?_append_left hj] at ht
      rw [List.take_append_of_le_length (by omega)]
      exact h.topo j t ht b hbt
    · rw [List.getElem?_append_right (by omega)] at ht
      have hj0 : j - T.length = 0 := by
        have := (List.getElem?_eq_some_iff.1 ht).1
        simp at this; omega
      rw [hj0] at ht
      have e : i = t := by simpa using ht
      subst e
      have ej : j = T.length := by omega
      subst ej
      rw [List.take_left]
      exact hb b hbt
set_option maxHeartbeats 2000000 in
set_option maxRecDepth 100000 in
theorem order_any (w : World) (q : Nat) (ds : List Dc) (ns : List Nd) (vd vn : Value) (h : ProgAt w q ds ns vd vn) (hwf : ProgWf ds ns) (hbd : ∀ n ∈ ns, n.kind = 2 → 0 ≤ n.decl) (hn : ds.length ≤ 16) (rank : Nat → Nat) (hR : Ranked ds (markAll ds ns 0 ds noM) rank) :
    Calls Try.prog 68 #[.pointer (some ⟨q, 0, none⟩)] w fun e w' => ∃ v T, e = .returned v ∧ OrdOk ds (markAll ds ns 0 ds noM) T ∧ w'.ownsRow w.heap.size 3 1 v T.length (tCells T) ∧ Below w.heap.size w w' := by
  have c0 := h.c0
  obtain ⟨av, cap, rfl, hsh⟩ := own_shape h.decls
  obtain ⟨i0, hi0, hz0, hz1, hz2⟩ := info_parts Try.infoIntO
  have hm2 := run_make_row' (P := Try.prog) 113 4 (.bool false) 1 Try.underlying113 Try.infoBool rfl .i64 .i64 ds.length (by omega) (by omega)
  have HSH := hide hsh
  have HP := hide h
  have HR := hide hR
  have HH := hide (hangs_any w q ds ns _ _ h hwf hbd)
  clear h hsh hwf hbd hR
  go_enter Try.func68, Try.ntmps68
  go_wp2_with fail
  refine HH.out.mono ?_
  rintro e w1 ⟨rfl, ⟨R, hM1, hR1⟩, hb1, hs1⟩
  have c0' : ∀ o, (w1.alloc o).cell? ⟨q, 0, none⟩ = some (.slice av ds.length cap) := fun o => (HP.out.below (hb1.alloc hb1.size o)).c0
  have c0'' := (HP.out.below hb1).c0
  obtain ⟨H, hHE⟩ : ∃ H, H = markAll ds ns 0 ds noM := ⟨_, rfl⟩
  rw [← hHE] at hM1 HR
  have HHE := hide hHE
  clear hHE
  have HS : Hid (∀ o, o = .cells (madeCells #[.bool false] ds.length) 4 → OrdS w (w1.alloc o) w1.heap.size ds R H [] (.slice none 0 0)) := hide (fun o ho => by
    subst ho
    exact ⟨hb1.alloc hb1.size _, hM1.alloc _, (World.rowIs_made w1 (.bool false) ds.length 4).congr (fun j _ => by simp), World.ownsRow_nil _ _ _ _, fun t ht => by simp at ht, fun j t ht => by simp at ht, fun i hi => World.rowIs.lt (hM1.rows i hi), hs1⟩)
  have HGE := hide hs1
  clear hM1 hR1 HH c0 hb1 hs1
  go_wp2
  go_loopw [5, 21] (fun v vr wr => ∃ (r : Nat) (T : List Nat), r ≤ ds.length ∧ vr = .int .i64 r ∧ OrdS w wr w1.heap.size ds R H T v ∧ T.length ≤ r * 16 ∧ (∀ (a : Nat) (d : Dc), ds[a]? = some d → d.kind ≠ 0 → rank a < r → a ∈ T)) (fun _ vr _ => ds.length - (intOf vr).toNat)
  case atStart => exact ⟨0, [], Nat.zero_le _, rfl, HS.out _ rfl, by simp, fun a d _ _ h => by omega⟩
  case round =>
    clear HS c0' c0''
    obtain ⟨r, T, hr, rfl, hS, hlen, hall⟩ := hrel
    by_cases hrl : r < ds.length
    · have p0 := (HP.out.below hS.bel).c0
      have j1 : (r : Int) < (ds.length : Int) := by omega
      have HSS := hide hS
      have HALL := hide hall
      have hl0 : T.length ≤ r * 16 + 0 := by omega
      clear hS hall
      go_wp2
      go_loopw [5, 28] (fun v vi wr => ∃ (i : Nat) (T : List Nat), i ≤ ds.length ∧ vi = .int .i64 i ∧ OrdS w wr w1.heap.size ds R H T v ∧ T.length ≤ r * 16 + i ∧ (∀ (a : Nat) (d : Dc), ds[a]? = some d → d.kind ≠ 0 → rank a < r → a ∈ T) ∧ (∀ (a : Nat) (d : Dc), ds[a]? = some d → d.kind ≠ 0 → a < i → rank a ≤ r → a ∈ T)) (fun _ vi _ => ds.length - (intOf vi).toNat)
      case atStart => exact ⟨0, T, Nat.zero_le _, rfl, HSS.out, hl0, HALL.out, fun a d _ _ h => by omega⟩
      case round =>
        clear HSS HALL p0 hl0 hlen
        obtain ⟨i, T, hi, rfl, hS, hlen, hall, hrow⟩ := hrel
        by_cases hil : i < ds.length
        · obtain ⟨g, rfl, _, hg2⟩ := HSH.out (by omega)
          obtain ⟨a, ha⟩ : ∃ a, a = ds[i]'hil := ⟨_, rfl⟩
          obtain ⟨x0, x1, x2, x3, x4, x5, x6⟩ := dc_later HP.out.decls hS.bel hg2 hil a ha
          have had : ds[i]? = some a := by rw [List.getElem?_eq_getElem hil, ha]
          have j3 : (0 : Int) ≤ (i : Int) := by omega
          have j4 : (i : Int) < (ds.length : Int) := by omega
          have o1 : ∀ o, (wr.alloc o).cell? ⟨w1.heap.size, i, none⟩ = some (.bool (decide (i ∈ T))) := fun o => (hS.alloc o).done.cell hil
          have f1 : ∀ o, (wr.alloc o).frozen? ⟨w1.heap.size, i, none⟩ = false := fun o => (hS.alloc o).done.frozen i
          have o2 : ∀ o, (wr.alloc o).cell? ⟨w.heap.size, i, none⟩ = some (.slice (some ⟨R i, 0, none⟩) ds.length ds.length) := fun o => (hS.alloc o).mat.outer i hil
          have HRD := hide (fun o => ready_any (wr.alloc o) (R i) w1.heap.size ds.length ds.length ds.length (H i) (fun j => decide (j ∈ T)) ((hS.alloc o).mat.rows i hil) (hS.alloc o).done (by omega))
          have HSS := hide hS
          have HALL := hide hall
          have HROW := hide hrow
          have HAD := hide had
          clear hS hall hrow ha had
          by_cases hk0 : a.kind = 0
          · have q0 : ((a.kind : Int) != 0) = false := by rw [hk0]; rfl
            have HK := hide hk0
            clear hk0
            go_wp2
            go_roundw
            case rel =>
              refine ⟨i + 1, T, by omega, by go_num, HSS.out.alloc _, by omega, HALL.out, fun b d hd hkb hlt hrk => ?_⟩
              rcases Nat.lt_succ_iff_lt_or_eq.1 hlt with h' | rfl
              · exact HROW.out b d hd hkb h' hrk
              · rw [HAD.out] at hd; cases hd; exact absurd HK.out hkb
            case measure => simp [intOf]; omega
          · have q0 : ((a.kind : Int) != 0) = true := by rw [bne_iff_ne]; omega
            have HK := hide hk0
            clear hk0
            by_cases hmem : i ∈ T
            · have qm : decide (i ∈ T) = true := by simpa using hmem
              rw [qm] at o1
              have HMEM := hide hmem
              clear hmem qm
              go_wp2
              go_roundw
              case rel =>
                refine ⟨i + 1, T, by omega, by go_num, HSS.out.alloc _, by omega, HALL.out, fun b d hd hkb hlt hrk => ?_⟩
                rcases Nat.lt_succ_iff_lt_or_eq.1 hlt with h' | rfl
                · exact HROW.out b d hd hkb h' hrk
                · exact HMEM.out
              case measure => simp [intOf]; omega
            · have qm : decide (i ∈ T) = false := by simpa using hmem
              rw [qm] at o1
              clear qm
              by_cases hrd : ∀ j, j < ds.length → H i j = true → decide (j ∈ T) = true
              · have qr : decide (∀ j, j < ds.length → H i j = true → decide (j ∈ T) = true) = true := by rw [decide_eq_true_iff]; exact hrd
                have HRY := hide hrd
                rw [qr] at HRD
                have hTl : T.length ≤ 300 := by
                  have : r * 16 ≤ 16 * 16 := Nat.mul_le_mul_right _ (by omega)
                  omega
                have hown := HSS.out.own
                have hdql : w1.heap.size < wr.heap.size := World.rowIs.lt HSS.out.done
                have hownp : ∀ o o', (((wr.setCell ⟨w1.heap.size, i, none⟩ (.bool true)).alloc o).alloc o').ownsRow (w1.heap.size + 1) 3 1 u5 T.length (tCells T) := fun o o' => ((own_eqb hown (fun b hb => heap_setCell_other wr ⟨w1.heap.size, i, none⟩ b _ (by have := (hown.lt b hb).1; show b ≠ w1.heap.size; omega))).alloc o).alloc o'
                have hWd : ∀ o o', (((wr.setCell ⟨w1.heap.size, i, none⟩ (.bool true)).alloc o).alloc o').rowIs w1.heap.size 4 ds.length (fun j => if j = i then .bool true else .bool (decide (j ∈ T))) := fun o o' => (((HSS.out.done.set i (.bool true)).alloc o).alloc o').congr (fun j _ => by rfl)
                have HWD := hide hWd
                clear hrd qr hWd hmem
                go_wp2_with fail
                refine (HRD.out _).mono ?_
                rintro e w2 ⟨rfl, rfl⟩
                go_wp2_with (at_builtin; refine wpList_append_lies _ rfl _ _ _ rfl (w1.heap.size + 1) 3 i0 _ 1 8 Try.underlying38 hi0 hz0 hz1 hz2 rfl (by omega) _ T.length (tCells T) rfl (hownp _ _) ⟨wr.heap.size + 1, 0, none⟩ 1 1 [.int .i64 (i : Int)] rfl rfl (World.news_of_block (cs := #[.int .i64 (i : Int)]) (t := 3) (fr := (0, 0)) (by have := heap_alloc_new ((wr.setCell ⟨w1.heap.size, i, none⟩ (.bool true)).alloc (.cells #[.int .i64 (a.kind : Int), .int .i64 (a.number : Int), .string a.name, .int .i64 (a.pos : Int), .int .i64 (a.place : Int), .int .i64 (a.root : Int), .int .i64 (a.fin : Int)] 126)) (.cells #[.int .i64 (i : Int)] 3); simpa using this)) (by simp [Value.oneCell']) (by omega) (by unfold maxLen; omega) (by omega) (by simp; omega) (wr.heap.size + 2) (by simp) ?_; intro gg cap2 w3 hown3 hgrow hat hlt3)
                go_roundw
                case rel =>
                  have hbs := HSS.out.bel.size
                  refine ⟨i + 1, T ++ [i], by omega, by go_num, ?_, by rw [List.length_append]; simp; omega, fun b d hd hkb hrk => List.mem_append_left _ (HALL.out b d hd hkb hrk), fun b d hd hkb hlt hrk => ?_⟩
                  · refine HSS.out.push HAD.out HK.out (fun b hb => ?_) (fun b hb hne => ?_) (HWD.out _ _) ?_ (fun b hb hne => hgrow.block b hb (Ne.symm hne)) (by simp; omega) hown3
                    · obtain ⟨_, d, hd, _⟩ := HR.out.less i b hb
                      have := HRY.out b (List.getElem?_eq_some_iff.1 hd).1 hb
                      simpa using this
                    · rw [Below.heap_alloc _ _ _ (by simp; omega), Below.heap_alloc _ _ _ (by simp; omega)]
                      exact heap_setCell_other wr ⟨w1.heap.size, i, none⟩ b _ hne
                    · exact ((((HSS.out.bel.setCell (by show w.heap.size ≤ w1.heap.size; have := HGE.out; omega) _).alloc (by simp; omega) _).alloc (by simp; omega) _)).grown hgrow (by simp; omega) (fun j hj => by have := ownBlock_ge hown j hj; have := HGE.out; omega)
                  · rcases Nat.lt_succ_iff_lt_or_eq.1 hlt with h' | rfl
                    · exact List.mem_append_left _ (HROW.out b d hd hkb h' hrk)
                    · simp
                case measure => simp [intOf]; omega
              · have qr : decide (∀ j, j < ds.length → H i j = true → decide (j ∈ T) = true) = false := by rw [decide_eq_false_iff_not]; exact hrd
                rw [qr] at HRD
                have HRN := hide hrd
                clear qr hrd hmem
                go_wp2_with fail
                refine (HRD.out _).mono ?_
                rintro e w2 ⟨rfl, rfl⟩
                go_wp2
                go_roundw
                case rel =>
                  refine ⟨i + 1, T, by omega, by go_num, HSS.out.alloc _, by omega, HALL.out, fun b d hd hkb hlt hrk => ?_⟩
                  rcases Nat.lt_succ_iff_lt_or_eq.1 hlt with h' | rfl
                  · exact HROW.out b d hd hkb h' hrk
                  · exfalso
                    refine HRN.out (fun j hj hh => ?_)
                    obtain ⟨h1, e, he, hke⟩ := HR.out.less b j hh
                    simpa using HALL.out j e he hke (by omega)
                case measure => simp [intOf]; omega
        · have ei : i = ds.length := by omega
          subst ei
          have HSS := hide hS
          have HROW := hide hrow
          clear hS hrow hall
          go_wp2
          go_roundw
          case rel =>
            refine ⟨r + 1, T, by omega, by go_num, HSS.out, by omega, fun b d hd hkb hrk => HROW.out b d hd hkb (List.getElem?_eq_some_iff.1 hd).1 (by omega)⟩
          case measure => simp [intOf]; omega
    · have er : r = ds.length := by omega
      subst er
      have HSS := hide hS
      have HALL := hide hall
      clear hS hall
      go_wp2
      go_ret
      rw [← HHE.out]
      refine ⟨_, T, rfl, ⟨HSS.out.eqn, HSS.out.topo, fun b d hd hkb => HALL.out b d hd hkb (HR.out.lt b d hd hkb), by omega⟩, own_wkO HSS.out.own (by have := HGE.out; omega), HSS.out.bel⟩
end Go.Proofs.Ytmndgoapkmhglab
