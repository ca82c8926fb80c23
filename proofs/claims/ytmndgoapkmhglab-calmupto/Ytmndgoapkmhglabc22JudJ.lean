import Derived.Test.Ytmndgoapkmhglabc21JudH
namespace Go.Proofs.Ytmndgoapkmhglab
open Go.RowKit
attribute [local go_sem ↓] Go.wp_at_zero Go.wp_at_succ

theorem Try.infoRoute : (Try.prog.info? 89).map (fun i => (i.zero, i.size, i.bytes)) = some (some (.agg #[.int .i64 0, .int .i64 0, .bool false]), 3, 24) := by kernel_rfl

def Rt.cells (r : Rt) : List Value := [.int .i64 (r.src : Int), .int .i64 (r.dst : Int), .bool r.late]
def rtCells (l : List Rt) : List Value := l.flatMap Rt.cells
theorem rtCells_snoc (l : List Rt) (t : Rt) : rtCells (l ++ [t]) = rtCells l ++ t.cells := by simp [rtCells]
theorem rt_len (t : Rt) : t.cells.length = 3 := rfl

theorem eqsF_snoc (l : List Dc) (a : Dc) : eqsF (l ++ [a]) = eqsF l ++ if a.kind = 0 then [] else [a] := by
  unfold eqsF
  rw [List.filter_append]
  by_cases h : a.kind = 0
  · simp [h]
  · simp [h]

set_option maxHeartbeats 1000000 in
set_option maxRecDepth 100000 in
theorem equations_any (w : World) (q : Nat) (ds : List Dc) (ns : List Nd) (vd vn : Value) (h : ProgAt w q ds ns vd vn) (hdl : ds.length ≤ 1501) :
    Calls Try.prog 67 #[.pointer (some ⟨q, 0, none⟩)] w fun e w' => ∃ v, e = .returned v ∧ w'.ownsRow w.heap.size 126 7 v (eqsF ds).length (dcCells (eqsF ds)) ∧ Below w.heap.size w w' := by
  have c0 := h.c0
  obtain ⟨av, cap, rfl, hsh⟩ := own_shape h.decls
  obtain ⟨i0, hi0, hz0, hz1, hz2⟩ := info_parts Try.infoDecl
  have HO := hide h.decls
  have HSH := hide hsh
  clear h hsh
  go_enter Try.func67, Try.ntmps67
  go_wp2
  go_loopw [3, 11] (fun v i wr => ∃ k : Nat, k ≤ ds.length ∧ i = .int .i64 k ∧ Below w.heap.size w wr ∧ wr.ownsRow w.heap.size 126 7 v (eqsF (ds.take k)).length (dcCells (eqsF (ds.take k)))) (fun _ i _ => ds.length - (intOf i).toNat)
  case atStart => exact ⟨0, Nat.zero_le _, rfl, Below.refl _ _, World.ownsRow_nil _ _ _ _⟩
  case round =>
    obtain ⟨k, hk, rfl, hbel, hown⟩ := hrel
    by_cases hlt : k < ds.length
    · obtain ⟨g, rfl, _, hg2⟩ := HSH.out (by omega)
      obtain ⟨a, ha⟩ : ∃ a, a = ds[k]'hlt := ⟨_, rfl⟩
      have hes := eqsF_snoc (ds.take k) (ds[k]'hlt)
      rw [← List.take_succ_eq_append_getElem hlt, ← ha] at hes
      obtain ⟨x0, x1, x2, x3, x4, x5, x6⟩ := dc_later HO.out hbel hg2 hlt a ha
      have hel : (eqsF (ds.take k)).length ≤ k := Nat.le_trans (List.length_filter_le _ _) (List.length_take_le _ _)
      have j1 : (0 : Int) ≤ (k : Int) := by omega
      have j2 : (k : Int) < (ds.length : Int) := by omega
      have HES := hide hes
      have hbs := hbel.size
      clear ha hes c0
      generalize eqsF (ds.take k) = es at *
      by_cases hk0 : a.kind = 0
      · have q0 : ((a.kind : Int) != 0) = false := by rw [hk0]; rfl
        have HF : Hid (eqsF (ds.take (k + 1)) = es) := hide (by rw [HES.out, if_pos hk0, List.append_nil])
        clear hk0
        go_wp2
        go_roundw
        case rel => exact ⟨k + 1, by omega, by go_num, hbel.alloc hbel.size _, by rw [HF.out]; exact hown.alloc _⟩
        case measure => simp [intOf]; omega
      · have q0 : ((a.kind : Int) != 0) = true := by rw [bne_iff_ne]; omega
        have HF : Hid (eqsF (ds.take (k + 1)) = es ++ [a]) := hide (by rw [HES.out, if_neg hk0])
        clear hk0
        go_wp2_with (at_builtin; refine wpList_append_lies _ rfl _ _ _ rfl w.heap.size 126 i0 _ 7 64 Try.underlying67 hi0 hz0 hz1 hz2 rfl (by omega) _ es.length (dcCells es) rfl ((hown.alloc _).alloc _) ⟨wr.heap.size + 1, 0, none⟩ 1 1 [.int .i64 (a.kind : Int), .int .i64 (a.number : Int), .string a.name, .int .i64 (a.pos : Int), .int .i64 (a.place : Int), .int .i64 (a.root : Int), .int .i64 (a.fin : Int)] rfl rfl (World.news_of_block (cs := #[.int .i64 (a.kind : Int), .int .i64 (a.number : Int), .string a.name, .int .i64 (a.pos : Int), .int .i64 (a.place : Int), .int .i64 (a.root : Int), .int .i64 (a.fin : Int)]) (t := 126) (fr := (0, 0)) (by have := heap_alloc_new (wr.alloc (.cells #[.int .i64 (a.kind : Int), .int .i64 (a.number : Int), .string a.name, .int .i64 (a.pos : Int), .int .i64 (a.place : Int), .int .i64 (a.root : Int), .int .i64 (a.fin : Int)] 126)) (.cells #[.int .i64 (a.kind : Int), .int .i64 (a.number : Int), .string a.name, .int .i64 (a.pos : Int), .int .i64 (a.place : Int), .int .i64 (a.root : Int), .int .i64 (a.fin : Int)] 126); simpa using this)) (by simp [Value.oneCell']) (by omega) (by unfold maxLen; omega) (by omega) (by simp; omega) (wr.heap.size + 2) (by simp) ?_; intro gg cap2 w1 hown1 hgrow hat hlt1)
        go_roundw
        case rel =>
          refine ⟨k + 1, by omega, by go_num, ?_, ?_⟩
          · exact ((hbel.alloc hbel.size _).alloc (by simp; omega) _).grown hgrow (by simp; omega) (fun j hj => ownBlock_ge hown j hj)
          · rw [HF.out, dcCells_snoc, List.length_append]
            exact hown1
        case measure => simp [intOf]; omega
    · have ek : ds.take k = ds := List.take_of_length_le (by omega)
      rw [ek] at hown
      have HOWN := hide hown
      clear hown ek
      go_wp2
      go_ret
      exact ⟨_, rfl, HOWN.out, hbel⟩

end Go.Proofs.Ytmndgoapkmhglab

namespace Go.Proofs.Ytmndgoapkmhglab
open Go.RowKit
attribute [local go_sem ↓] Go.wp_at_zero Go.wp_at_succ

set_option maxHeartbeats 2000000 in
set_option maxRecDepth 100000 in
theorem linksOf_any (w : World) (q : Nat) (ds : List Dc) (ns : List Nd) (vd vn : Value) (h : ProgAt w q ds ns vd vn) (hwf : ProgWf ds ns) :
    Calls Try.prog 41 #[.pointer (some ⟨q, 0, none⟩)] w fun e w' => ∃ v, e = .returned v ∧ w'.ownsRow w.heap.size 89 3 v (linksF ds ns).length (rtCells (linksF ds ns)) ∧ Below w.heap.size w w' := by
  have hdl := hwf.dl
  have c0 := h.c0
  obtain ⟨av, cap, rfl, hsh⟩ := own_shape h.decls
  obtain ⟨i0, hi0, hz0, hz1, hz2⟩ := info_parts Try.infoRoute
  have HSH := hide hsh
  have HP := hide h
  have HWF := hide hwf
  clear h hsh hwf
  go_enter Try.func41, Try.ntmps41
  go_wp2
  go_loopw [3, 14] (fun v i wr => ∃ (k : Nat) (L : List Rt), k ≤ ds.length ∧ i = .int .i64 k ∧ Below w.heap.size w wr ∧ L.length ≤ 4 * k ∧ L ++ linksFrom ds ns k (ds.drop k) = linksF ds ns ∧ wr.ownsRow w.heap.size 89 3 v L.length (rtCells L)) (fun _ i _ => ds.length - (intOf i).toNat)
  case atStart => exact ⟨0, [], Nat.zero_le _, rfl, Below.refl _ _, by simp, rfl, World.ownsRow_nil _ _ _ _⟩
  case round =>
    obtain ⟨k, L, hk, rfl, hbel, hll, hrec, hown⟩ := hrel
    by_cases hlt : k < ds.length
    · obtain ⟨g, rfl, _, hg2⟩ := HSH.out (by omega)
      obtain ⟨a, ha⟩ : ∃ a, a = ds[k]'hlt := ⟨_, rfl⟩
      rw [drop_at ds k hlt, ← ha] at hrec
      obtain ⟨x0, x1, x2, x3, x4, x5, x6⟩ := dc_later HP.out.decls hbel hg2 hlt a ha
      have hpl := HWF.out.place a (by rw [ha]; exact List.getElem_mem hlt)
      have j1 : (0 : Int) ≤ (k : Int) := by omega
      have j2 : (k : Int) < (ds.length : Int) := by omega
      simp only [linksFrom] at hrec
      have HREC := hide hrec
      have HOWN := hide hown
      clear ha hrec c0 hown
      by_cases hk0 : a.kind = 0
      · have q0 : ((a.kind : Int) == 0) = true := by rw [hk0]; rfl
        have HF : Hid (L ++ linksFrom ds ns (k + 1) (ds.drop (k + 1)) = linksF ds ns) := hide (by rw [← HREC.out, if_pos hk0, List.nil_append])
        clear hk0
        go_wp2
        go_roundw
        case rel => exact ⟨k + 1, L, by omega, by go_num, hbel.alloc hbel.size _, by omega, HF.out, HOWN.out.alloc _⟩
        case measure => simp [intOf]; omega
      · have q0 : ((a.kind : Int) == 0) = false := by rw [beq_eq_false_iff_ne]; omega
        have HF : Hid (L ++ (linksTo ds ns k a 4 ++ linksFrom ds ns (k + 1) (ds.drop (k + 1))) = linksF ds ns) := hide (by rw [← HREC.out, if_neg hk0])
        have HN : Hid ((wr.alloc (.cells #[.int .i64 (a.kind : Int), .int .i64 (a.number : Int), .string a.name, .int .i64 (a.pos : Int), .int .i64 (a.place : Int), .int .i64 (a.root : Int), .int .i64 (a.fin : Int)] 126)).heap[wr.heap.size]? = some (.cells #[.int .i64 (a.kind : Int), .int .i64 (a.number : Int), .string a.name, .int .i64 (a.pos : Int), .int .i64 (a.place : Int), .int .i64 (a.root : Int), .int .i64 (a.fin : Int)] 126)) := hide (heap_alloc_new wr _)
        have hNb : w.heap.size ≤ wr.heap.size := hbel.size
        clear hk0 HREC
        go_wp2
        generalize hNN : wr.heap.size = N at *
        have HNN := hide hNN
        clear hNN
        go_loopw [3, 6] (fun v i wx => ∃ p : Nat, p ≤ 4 ∧ i = .int .i64 p ∧ Below w.heap.size w wx ∧ wx.ownsRow w.heap.size 89 3 v (L ++ linksTo ds ns k a p).length (rtCells (L ++ linksTo ds ns k a p)) ∧ (∀ gg, v.ownBlock = some gg → gg ≠ N) ∧ N < wx.heap.size ∧
            wx.heap[N]? = some (.cells #[.int .i64 (a.kind : Int), .int .i64 (a.number : Int), .string a.name, .int .i64 (a.pos : Int), .int .i64 (a.place : Int), .int .i64 (a.root : Int), .int .i64 (a.fin : Int)] 126)) (fun _ i _ => 4 - (intOf i).toNat)
        case atStart => exact ⟨0, by omega, rfl, hbel.alloc hbel.size _, by simp only [linksTo, List.append_nil]; exact HOWN.out.alloc _, fun gg hg => by have := (HOWN.out.lt gg hg).2; have := HNN.out; omega, by simp; have := HNN.out; omega, HN.out⟩
        case round =>
          clear hbel HOWN HN HNN
          obtain ⟨p, hp, rfl, hbx, hown, hvb, hNl, hNc⟩ := hrel
          by_cases hpl4 : p < 4
          · obtain ⟨d0, d1, d2, d3, d4, d5, d6⟩ := row7 hNc
            have j3 : (0 : Int) ≤ (p : Int) := by omega
            have j4 : (p : Int) < 4 := by omega
            have hLt := linksTo_len ds ns k a p
            have HL : Hid (L ++ linksTo ds ns k a (p + 1) = (L ++ linksTo ds ns k a p) ++ linkAt ds ns k a p) := hide (by simp [linksTo])
            have hlen : (L ++ linksTo ds ns k a p).length ≤ 6010 := by simp; omega
            have HNC := hide hNc
            have HVB := hide hvb
            clear hNc hvb
            go_wp2_with fail
            refine (uses_any _ q ds ns _ _ (HP.out.below hbx) HWF.out k p).mono ?_
            rintro e w2 ⟨rfl, hb2⟩
            have hbx2 : Below w.heap.size w w2 := hbx.trans (hb2.mono hbx.size)
            have hown2 := bel_own hown hb2
            have hNc2 := (hb2.block N hNl).trans HNC.out
            have hNl2 : N < w2.heap.size := Nat.lt_of_lt_of_le hNl hb2.size
            clear hown hbx hb2 HNC hNl d0 d1 d2 d3 d4 d5 d6
            obtain ⟨d0, d1, d2, d3, d4, d5, d6⟩ := row7 hNc2
            have HNC := hide hNc2
            have HLA : Hid (linkAt ds ns k a p = if (usesF ds ns k p).1 = true ∧ p ≠ a.place then [⟨a.number, p, !(usesF ds ns k p).2⟩] else []) := hide rfl
            clear hNc2
            generalize (usesF ds ns k p).1 = ub at *
            generalize (usesF ds ns k p).2 = pb at *
            generalize L ++ linksTo ds ns k a p = LL at *
            by_cases hpp : p = a.place
            · have q1 : ((p : Int) != (a.place : Int)) = false := by rw [hpp]; simp
              have HF : Hid (L ++ linksTo ds ns k a (p + 1) = LL) := hide (by rw [HL.out, HLA.out, if_neg (fun h => h.2 hpp), List.append_nil])
              clear hpp
              cases ub
              all_goals
                go_wp2
                go_roundw
                case rel => exact ⟨p + 1, by omega, by go_num, hbx2, by rw [HF.out]; exact hown2, HVB.out, hNl2, HNC.out⟩
                case measure => simp [intOf]; omega
            · have q1 : ((p : Int) != (a.place : Int)) = true := by rw [bne_iff_ne]; omega
              cases ub
              · have HF : Hid (L ++ linksTo ds ns k a (p + 1) = LL) := hide (by rw [HL.out, HLA.out, if_neg (fun h => by cases h.1), List.append_nil])
                clear hpp
                go_wp2
                go_roundw
                case rel => exact ⟨p + 1, by omega, by go_num, hbx2, by rw [HF.out]; exact hown2, HVB.out, hNl2, HNC.out⟩
                case measure => simp [intOf]; omega
              · have HF : Hid (L ++ linksTo ds ns k a (p + 1) = LL ++ [⟨a.number, p, !pb⟩]) := hide (by rw [HL.out, HLA.out, if_pos ⟨rfl, hpp⟩])
                have hbs := hbx2.size
                clear hpp
                go_wp2_with (at_builtin; refine wpList_append_lies _ rfl _ _ _ rfl w.heap.size 89 i0 _ 3 24 Try.underlying46 hi0 hz0 hz1 hz2 rfl (by omega) _ LL.length (rtCells LL) rfl (hown2.alloc _) ⟨w2.heap.size, 0, none⟩ 1 1 [.int .i64 (a.number : Int), .int .i64 (p : Int), .bool (!pb)] rfl rfl (World.news_of_block (cs := #[.int .i64 (a.number : Int), .int .i64 (p : Int), .bool (!pb)]) (t := 89) (fr := (0, 0)) (heap_alloc_new w2 _)) (by simp [Value.oneCell']) (by omega) (by unfold maxLen; omega) (by omega) (by simp; omega) (w2.heap.size + 1) (by simp) ?_; intro gg cap2 w3 hown3 hgrow hat hlt3)
                go_roundw
                case rel =>
                  refine ⟨p + 1, by omega, by go_num, ?_, ?_, ?_, ?_, ?_⟩
                  · exact (hbx2.alloc hbx2.size _).grown hgrow (by simp; omega) (fun j hj => ownBlock_ge hown2 j hj)
                  · rw [HF.out, rtCells_snoc, List.length_append]
                    exact hown3
                  · intro g3 hg3
                    have e3 : g3 = gg := by simpa [Value.ownBlock] using hg3.symm
                    subst e3
                    rcases hat with hh | hh
                    · exact HVB.out _ hh
                    · omega
                  · have := hgrow.size; simp at this; omega
                  · rw [hgrow.block N (by simp; omega) (fun e => HVB.out N e.symm rfl), Below.heap_alloc _ _ _ hNl2]
                    exact HNC.out
                case measure => simp [intOf]; omega
          · have ep : p = 4 := by omega
            subst ep
            have HOWN := hide hown
            have hL4 := linksTo_len ds ns k a 4
            clear hown hvb hNc
            go_wp2
            go_roundw
            case rel => exact ⟨k + 1, L ++ linksTo ds ns k a 4, by omega, by go_num, hbx, by simp; omega, by rw [List.append_assoc]; exact HF.out, HOWN.out⟩
            case measure => simp [intOf]; omega
    · have HF : Hid (linksF ds ns = L) := hide (by rw [← hrec, List.drop_of_length_le (by omega)]; simp [linksFrom])
      have HOWN := hide hown
      clear hrec hown
      go_wp2
      go_ret
      exact ⟨_, rfl, by rw [HF.out]; exact HOWN.out, hbel⟩

end Go.Proofs.Ytmndgoapkmhglab
