import Derived.Test.YtbmhafagdchjfaaJudH
namespace Go.Proofs.Ytbmhafagdchjfaa
open Go.RowKit
attribute [local go_sem ↓] Go.wp_at_zero Go.wp_at_succ

theorem Try.infoRoute : (Try.prog.info? 62).map (fun i => (i.zero, i.size, i.bytes)) = some (some (.agg #[.int .i64 0, .int .i64 0, .bool false]), 3, 24) := by kernel_rfl

def Rt.cells (r : Rt) : List Value := [.int .i64 (r.src : Int), .int .i64 (r.dst : Int), .bool r.late]
def rtCells (l : List Rt) : List Value := l.flatMap Rt.cells
theorem rtCells_snoc (l : List Rt) (t : Rt) : rtCells (l ++ [t]) = rtCells l ++ t.cells := by simp [rtCells]
theorem rt_len (t : Rt) : t.cells.length = 3 := rfl

theorem eqsF_snoc (l : List Dc) (a : Dc) : eqsF (l ++ [a]) = eqsF l ++ if a.kind = 0 then [] else [a] := by
  unfold eqsF
  rw [List.filter_append]
  by_cases h : a.kind = 0
  · simp [h]
  · simp [h]

set_option maxHeartbeats 1000000 in
set_option maxRecDepth 100000 in
theorem equations_any (w : World) (q : Nat) (ds : List Dc) (ns : List Nd) (vd vn : Value) (h : ProgAt w q ds ns vd vn) (hdl : ds.length ≤ 1501) :
    Calls Try.prog 71 #[.pointer (some ⟨q, 0, none⟩)] w fun e w' => ∃ v, e = .returned v ∧ w'.ownsRow w.heap.size 112 7 v (eqsF ds).length (dcCells (eqsF ds)) ∧ Below w.heap.size w w' := by
  have c0 := h.c0
  obtain ⟨av, cap, rfl, hsh⟩ := own_shape h.decls
  obtain ⟨i0, hi0, hz0, hz1, hz2⟩ := info_parts Try.infoDecl
  have HO := hide h.decls
  have HSH := hide hsh
  clear h hsh
  go_enter Try.func71, Try.ntmps71
  go_wp2
  go_loopw [3, 11] (fun v i wr => ∃ k : Nat, k ≤ ds.length ∧ i = .int .i64 k ∧ Below w.heap.size w wr ∧ wr.ownsRow w.heap.size 112 7 v (eqsF (ds.take k)).length (dcCells (eqsF (ds.take k)))) (fun _ i _ => ds.length - (intOf i).toNat)
  case atStart => exact ⟨0, Nat.zero_le _, rfl, Below.refl _ _, World.ownsRow_nil _ _ _ _⟩
  case round =>
    obtain ⟨k, hk, rfl, hbel, hown⟩ := hrel
    by_cases hlt : k < ds.length
    · obtain ⟨g, rfl, _, hg2⟩ := HSH.out (by omega)
      obtain ⟨a, ha⟩ : ∃ a, a = ds[k]'hlt := ⟨_, rfl⟩
      have hes := eqsF_snoc (ds.take k) (ds[k]'hlt)
      rw [← List.take_succ_eq_append_getElem hlt, ← ha] at hes
      obtain ⟨x0, x1, x2, x3, x4, x5, x6⟩ := dc_later HO.out hbel hg2 hlt a ha
      have hel : (eqsF (ds.take k)).length ≤ k := Nat.le_trans (List.length_filter_le _ _) (List.length_take_le _ _)
      have j1 : (0 : Int) ≤ (k : Int) := by omega
      have j2 : (k : Int) < (ds.length : Int) := by omega
      have HES := hide hes
      have hbs := hbel.size
      clear ha hes c0
      generalize eqsF (ds.take k) = es at *
      by_cases hk0 : a.kind = 0
      · have q0 : ((a.kind : Int) != 0) = false := by rw [hk0]; rfl
        have HF : Hid (eqsF (ds.take (k + 1)) = es) := hide (by rw [HES.out, if_pos hk0, List.append_nil])
        clear hk0
        go_wp2
        go_roundw
        case rel => exact ⟨k + 1, by omega, by go_num, hbel.alloc hbel.size _, by rw [HF.out]; exact hown.alloc _⟩
        case measure => simp [intOf]; omega
      · have q0 : ((a.kind : Int) != 0) = true := by rw [bne_iff_ne]; omega
        have HF : Hid (eqsF (ds.take (k + 1)) = es ++ [a]) := hide (by rw [HES.out, if_neg hk0])
        clear hk0
        go_wp2_with (at_builtin; refine wpList_append_lies _ rfl _ _ _ rfl w.heap.size 112 i0 _ 7 64 Try.underlying49 hi0 hz0 hz1 hz2 rfl (by omega) _ es.length (dcCells es) rfl ((hown.alloc _).alloc _) ⟨wr.heap.size + 1, 0, none⟩ 1 1 [.int .i64 (a.kind : Int), .int .i64 (a.number : Int), .string a.name, .int .i64 (a.pos : Int), .int .i64 (a.place : Int), .int .i64 (a.root : Int), .int .i64 (a.fin : Int)] rfl rfl (World.news_of_block (cs := #[.int .i64 (a.kind : Int), .int .i64 (a.number : Int), .string a.name, .int .i64 (a.pos : Int), .int .i64 (a.place : Int), .int .i64 (a.root : Int), .int .i64 (a.fin : Int)]) (t := 112) (fr := (0, 0)) (by have := heap_alloc_new (wr.alloc (.cells #[.int .i64 (a.kind : Int), .int .i64 (a.number : Int), .string a.name, .int .i64 (a.pos : Int), .int .i64 (a.place : Int), .int .i64 (a.root : Int), .int .i64 (a.fin : Int)] 112)) (.cells #[.int .i64 (a.kind : Int), .int .i64 (a.number : Int), .string a.name, .int .i64 (a.pos : Int), .int .i64 (a.place : Int), .int .i64 (a.root : Int), .int .i64 (a.fin : Int)] 112); simpa using this)) (by simp [Value.oneCell']) (by omega) (by unfold maxLen; omega) (by omega) (by simp; omega) (wr.heap.size + 2) (by simp) ?_; intro gg cap2 w1 hown1 hgrow hat hlt1)
        go_roundw
        case rel =>
          refine ⟨k + 1, by omega, by go_num, ?_, ?_⟩
          · exact ((hbel.alloc hbel.size _).alloc (by simp; omega) _).grown hgrow (by simp; omega) (fun j hj => ownBlock_ge hown j hj)
          · rw [HF.out, dcCells_snoc, List.length_append]
            exact hown1
        case measure => simp [intOf]; omega
    · have ek : ds.take k = ds := List.take_of_length_le (by omega)
      rw [ek] at hown
      have HOWN := hide hown
      clear hown ek
      go_wp2
      go_ret
      exact ⟨_, rfl, HOWN.out, hbel⟩

end Go.Proofs.Ytbmhafagdchjfaa
