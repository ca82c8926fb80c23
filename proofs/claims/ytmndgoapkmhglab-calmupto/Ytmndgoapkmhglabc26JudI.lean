import Derived.Test.Ytmndgoapkmhglabc05Bytes
import Derived.Test.Ytmndgoapkmhglabc24OrdB
namespace Go.Proofs.Ytmndgoapkmhglab
open Go.RowKit
attribute [local go_sem ↓] Go.wp_at_zero Go.wp_at_succ
set_option maxHeartbeats 2000000 in
set_option maxRecDepth 100000 in
theorem cycle_any (w : World) (q : Nat) (ds : List Dc) (ns : List Nd) (vd vn : Value) (h : ProgAt w q ds ns vd vn) (hwf : ProgWf ds ns) (hbd : ∀ n ∈ ns, n.kind = 2 → 0 ≤ n.decl) :
    Calls Try.prog 85 #[.pointer (some ⟨q, 0, none⟩)] w fun e w' => e = .returned (optVal (cycleF ds ns)) ∧ Below w.heap.size w w' := by
  have hdl := hwf.dl
  have hnl := hwf.nl
  have c0 := h.c0
  obtain ⟨av, cap, rfl, hsh⟩ := own_shape h.decls
  obtain ⟨an, capn, rfl, hshn⟩ := own_shape h.nodes
  have HSH := hide hsh
  have HSHN := hide hshn
  have HP := hide h
  have HWF := hide hwf
  have HBD := hide hbd
  clear h hsh hwf hshn hbd
  go_enter Try.func85, Try.ntmps85
  have hlt0 := HP.out.lt
  go_wp2_with fail
  refine (hangs_any w q ds ns _ _ HP.out HWF.out HBD.out).mono ?_
  rintro e w1 ⟨rfl, ⟨R, hM1, hR1⟩, hb1, hs1⟩
  obtain ⟨M, hMM⟩ : ∃ M, M = markAll ds ns 0 ds noM := ⟨_, rfl⟩
  rw [← hMM] at hM1
  have HM1 := hide hM1
  have HF := hide hMM.symm
  clear c0 hM1 hMM
  go_wp2_with fail
  refine (follow_any w1 w.heap.size ds.length ds.length _ M HM1.out hdl).mono ?_
  rintro e w2 ⟨rfl, hm2, hro2⟩
  have hb2 : Below w.heap.size w w2 := hb1.trans (hro2.below (fun i hi => by have := hR1 i hi; omega))
  have c0 := (HP.out.below hb2).c0
  have HM2 := hide hm2
  clear hm2 hro2 hb1 HM1 hR1 hs1
  have HC : Hid (cycleF ds ns = firstSelf (warsh M ds.length) 0 ds) := hide (by unfold cycleF; rw [HF.out])
  generalize warsh M ds.length = MW at *
  go_wp2
  go_loopw [16] (fun i wx => ∃ j : Nat, j ≤ ds.length ∧ i = .int .i64 j ∧ Below w.heap.size w wx ∧ Mat wx w.heap.size ds.length R MW ∧ firstSelf MW j (ds.drop j) = firstSelf MW 0 ds) (fun i _ => ds.length - (intOf i).toNat)
  case atStart => exact ⟨0, Nat.zero_le _, rfl, hb2, HM2.out, rfl⟩
  case round =>
    clear hb2 HM2 c0
    obtain ⟨k, hk, rfl, hbx, hmx, hrb⟩ := hrel
    by_cases hlt : k < ds.length
    · obtain ⟨g, rfl, _, hg2⟩ := HSH.out (by omega)
      rw [drop_at ds k hlt] at hrb
      obtain ⟨a, ha⟩ : ∃ a, a = ds[k]'hlt := ⟨_, rfl⟩
      rw [← ha] at hrb
      obtain ⟨x0, x1, x2, x3, x4, x5, x6⟩ := dc_later HP.out.decls hbx hg2 hlt a ha
      have j1 : (0 : Int) ≤ (k : Int) := by omega
      have j2 : (k : Int) < (ds.length : Int) := by omega
      simp only [firstSelf] at hrb
      have o1 : ∀ o, (wr.alloc o).cell? ⟨w.heap.size, k, none⟩ = some (.slice (some ⟨R k, 0, none⟩) ds.length ds.length) := fun o => (hmx.alloc o).outer k hlt
      have o2 : ∀ o, (wr.alloc o).cell? ⟨R k, k, none⟩ = some (.bool (MW k k)) := fun o => (hmx.alloc o).cell hlt hlt
      have HRB := hide hrb
      have HMX := hide hmx
      clear ha hrb hmx
      by_cases hs : MW k k = true
      · have HF : Hid (cycleF ds ns = some a.pos) := hide (by rw [HC.out, ← HRB.out, if_pos hs])
        go_wp2
        go_ret2
        exact ⟨opt_some HF.out, hbx.alloc hbx.size _⟩
      · have hs' : MW k k = false := by simpa using hs
        have HF : Hid (firstSelf MW (k + 1) (ds.drop (k + 1)) = firstSelf MW 0 ds) := hide (by rw [← HRB.out, if_neg hs])
        clear hs
        go_wp2
        go_roundw
        case rel => exact ⟨k + 1, by omega, by go_num, hbx.alloc hbx.size _, HMX.out.alloc _, HF.out⟩
        case measure => simp [intOf]; omega
    · have HF : Hid (cycleF ds ns = none) := hide (by rw [HC.out, ← hrb, List.drop_of_length_le (by omega)]; rfl)
      clear hrb
      go_wp2
      go_ret2
      exact ⟨opt_none HF.out, hbx⟩
set_option maxHeartbeats 2000000 in
set_option maxRecDepth 100000 in
theorem uses_any (w : World) (q : Nat) (ds : List Dc) (ns : List Nd) (vd vn : Value) (h : ProgAt w q ds ns vd vn) (hwf : ProgWf ds ns) (decl place : Nat) :
    Calls Try.prog 71 #[.pointer (some ⟨q, 0, none⟩), .int .i64 (decl : Int), .int .i64 (place : Int)] w fun e w' => e = .returned (.tuple #[.bool (usesF ds ns decl place).1, .bool (usesF ds ns decl place).2]) ∧ Below w.heap.size w w' := by
  have hdl := hwf.dl
  have hnl := hwf.nl
  have c0 := h.c0
  obtain ⟨av, cap, rfl, hsh⟩ := own_shape h.decls
  obtain ⟨an, capn, rfl, hshn⟩ := own_shape h.nodes
  have HSH := hide hsh
  have HSHN := hide hshn
  have HP := hide h
  have HWF := hide hwf
  clear h hsh hwf hshn
  go_enter Try.func71, Try.ntmps71
  go_wp2
  go_loopw [8, 9, 19] (fun u p i wr => ∃ (k : Nat) (ub pb : Bool), k ≤ ds.length ∧ i = .int .i64 k ∧ u = .bool ub ∧ p = .bool pb ∧ Below w.heap.size w wr ∧ usesAll ns decl place (ds.drop k) ub pb = usesF ds ns decl place) (fun _ _ i _ => ds.length - (intOf i).toNat)
  case atStart => exact ⟨0, false, false, Nat.zero_le _, rfl, rfl, rfl, Below.refl _ _, rfl⟩
  case round =>
    obtain ⟨k, ub, pb, hk, rfl, rfl, rfl, hbel, hrec⟩ := hrel
    by_cases hlt : k < ds.length
    · obtain ⟨g, rfl, _, hg2⟩ := HSH.out (by omega)
      rw [drop_at ds k hlt] at hrec
      obtain ⟨a, ha⟩ : ∃ a, a = ds[k]'hlt := ⟨_, rfl⟩
      rw [← ha] at hrec
      obtain ⟨x0, x1, x2, x3, x4, x5, x6⟩ := dc_later HP.out.decls hbel hg2 hlt a ha
      have ham : a ∈ ds := by rw [ha]; exact List.getElem_mem hlt
      have hseg := HWF.out.segs a ham
      have j1 : (0 : Int) ≤ (k : Int) := by omega
      have j2 : (k : Int) < (ds.length : Int) := by omega
      simp only [usesAll] at hrec
      have HREC := hide hrec
      have c1 : ∀ o, (wr.alloc o).cell? ⟨q, 1, none⟩ = some (.slice an ns.length capn) := fun o => ((HP.out.below hbel).below ((Below.refl _ _).alloc (Nat.le_refl _) o)).c1
      clear ha hrec c0 ham
      by_cases hk0 : a.kind = 0
      · have q0 : ((a.kind : Int) == 0) = true := by rw [hk0]; rfl
        have HF : Hid (usesAll ns decl place (ds.drop (k + 1)) ub pb = usesF ds ns decl place) := hide (by rw [← HREC.out, if_pos (.inl hk0)])
        clear hk0 hseg
        go_wp2
        go_roundw
        case rel => exact ⟨k + 1, ub, pb, by omega, by go_num, rfl, rfl, hbel.alloc hbel.size _, HF.out⟩
        case measure => simp [intOf]; omega
      have q0 : ((a.kind : Int) == 0) = false := by rw [beq_eq_false_iff_ne]; omega
      by_cases hpl : a.place = place
      · have q1 : ((a.place : Int) != (place : Int)) = false := by rw [hpl]; simp
        have HREC2 : Hid (usesAll ns decl place (ds.drop (k + 1)) (usesSeg decl (seg ns a.root a.fin) ub pb).1 (usesSeg decl (seg ns a.root a.fin) ub pb).2 = usesF ds ns decl place) := hide (by rw [← HREC.out, if_neg (by rintro (h | h); exact hk0 h; exact h hpl)])
        obtain ⟨hs1, hs2⟩ : a.root < a.fin ∧ a.fin ≤ ns.length := by
          rcases hseg with ⟨_, _, h0⟩ | h0
          · exact absurd h0 hk0
          · exact h0
        clear hk0 hseg hpl HREC
        obtain ⟨gn, rfl, _, hgn⟩ := HSHN.out (by omega)
        have hcn : ns.length ≤ capn := by
          rcases HP.out.nodes.2 with ⟨h0, _⟩ | ⟨_, c', _, h1, _, _, h2, _⟩
          · cases h0
          · cases h1; exact h2
        have i1 : (0 : Int) ≤ (a.root : Int) := by omega
        have i2 : (a.root : Int) ≤ (a.fin : Int) := by omega
        have i3 : (a.fin : Int) ≤ (capn : Int) := by omega
        have i4 : (a.root : Int) < (capn : Int) := by omega
        go_wp2_with fail
        go_quiet (fail)
        go_wp2
        go_loopw [8, 9, 42] (fun u p i wx => ∃ (m : Nat) (u2 p2 : Bool), m ≤ a.fin - a.root ∧ i = .int .i64 m ∧ u = .bool u2 ∧ p = .bool p2 ∧ Below w.heap.size w wx ∧ usesSeg decl ((seg ns a.root a.fin).drop m) u2 p2 = usesSeg decl (seg ns a.root a.fin) ub pb) (fun _ _ i _ => (a.fin - a.root) - (intOf i).toNat)
        case atStart => exact ⟨0, ub, pb, Nat.zero_le _, rfl, rfl, rfl, below_drewN (hbel.alloc hbel.size _) _, rfl⟩
        case round =>
          clear hbel x0 x1 x2 x3 x4 x5 x6 c1
          obtain ⟨m, u2, p2, hm, rfl, rfl, rfl, hbx, hrb⟩ := hrel
          by_cases hml : m < a.fin - a.root
          · have hrm : a.root + m < ns.length := by omega
            obtain ⟨b, hb⟩ : ∃ b, b = ns[a.root + m]'hrm := ⟨_, rfl⟩
            rw [seg_drop ns a.root a.fin m (by omega) hs2, ← hb] at hrb
            obtain ⟨y0, y1, y2, y3, y4, y5, y6, y7, y8, y9, y10⟩ := nd_seg HP.out.nodes hbx hgn a.root m hrm b hb
            have i5 : (0 : Int) ≤ (m : Int) := by omega
            have i6 : (m : Int) < ((a.fin - a.root : Nat) : Int) := by omega
            simp only [usesSeg] at hrb
            have HRB := hide hrb
            clear hrb hb
            by_cases hk2 : b.kind = 2
            · have q2 : ((b.kind : Int) == 2) = true := by rw [hk2]; rfl
              by_cases hd0 : b.decl = (decl : Int)
              · have q3 : (b.decl == (decl : Int)) = true := by rw [hd0]; simp
                have HF : Hid (usesSeg decl ((seg ns a.root a.fin).drop (m + 1)) true (p2 || !b.behind) = usesSeg decl (seg ns a.root a.fin) ub pb) := hide (by rw [← HRB.out, if_pos ⟨hk2, hd0⟩])
                clear hk2 hd0
                cases p2
                all_goals
                  go_wp2
                  go_roundw
                  case rel => exact ⟨m + 1, true, _, by omega, by go_num, rfl, by simp, hbx.alloc hbx.size _, HF.out⟩
                  case measure => simp [intOf]; omega
              · have q3 : (b.decl == (decl : Int)) = false := by rw [beq_eq_false_iff_ne]; exact hd0
                have HF : Hid (usesSeg decl ((seg ns a.root a.fin).drop (m + 1)) u2 p2 = usesSeg decl (seg ns a.root a.fin) ub pb) := hide (by rw [← HRB.out, if_neg (fun h => hd0 h.2)])
                clear hk2 hd0
                go_wp2
                go_roundw
                case rel => exact ⟨m + 1, u2, p2, by omega, by go_num, rfl, rfl, hbx.alloc hbx.size _, HF.out⟩
                case measure => simp [intOf]; omega
            · have q2 : ((b.kind : Int) == 2) = false := by rw [beq_eq_false_iff_ne]; omega
              have HF : Hid (usesSeg decl ((seg ns a.root a.fin).drop (m + 1)) u2 p2 = usesSeg decl (seg ns a.root a.fin) ub pb) := hide (by rw [← HRB.out, if_neg (fun h => hk2 h.1)])
              clear hk2
              go_wp2
              go_roundw
              case rel => exact ⟨m + 1, u2, p2, by omega, by go_num, rfl, rfl, hbx.alloc hbx.size _, HF.out⟩
              case measure => simp [intOf]; omega
          · have HF : Hid (usesSeg decl (seg ns a.root a.fin) ub pb = (u2, p2)) := hide (by rw [← hrb, List.drop_of_length_le (by rw [seg_len ns a.root a.fin hs2]; omega)]; rfl)
            clear hrb
            go_wp2
            go_roundw
            case rel => exact ⟨k + 1, u2, p2, by omega, by go_num, rfl, rfl, hbx, by rw [← HREC2.out, HF.out]⟩
            case measure => simp [intOf]; omega
      · have q1 : ((a.place : Int) != (place : Int)) = true := by rw [bne_iff_ne]; omega
        have HF : Hid (usesAll ns decl place (ds.drop (k + 1)) ub pb = usesF ds ns decl place) := hide (by rw [← HREC.out, if_pos (.inr hpl)])
        clear hk0 hseg hpl
        go_wp2
        go_roundw
        case rel => exact ⟨k + 1, ub, pb, by omega, by go_num, rfl, rfl, hbel.alloc hbel.size _, HF.out⟩
        case measure => simp [intOf]; omega
    · have HF : Hid (usesF ds ns decl place = (ub, pb)) := hide (by rw [← hrec, List.drop_of_length_le (by omega)]; rfl)
      clear hrec
      go_wp2
      go_ret2
      exact ⟨by rw [HF.out]; rfl, hbel⟩
theorem Try.infoRoute : (Try.prog.info? 89).map (fun i => (i.zero, i.size, i.bytes)) = some (some (.agg #[.int .i64 0, .int .i64 0, .bool false]), 3, 24) := by kernel_rfl
def Rt.cells (r : Rt) : List Value := [.int .i64 (r.src : Int), .int .i64 (r.dst : Int), .bool r.late]
def rtCells (l : List Rt) : List Value := l.flatMap Rt.cells
theorem rtCells_snoc (l : List Rt) (t : Rt) : rtCells (l ++ [t]) = rtCells l ++ t.cells := by simp [rtCells]
theorem rt_len (t : Rt) : t.cells.length = 3 := rfl
theorem eqsF_snoc (l : List Dc) (a : Dc) : eqsF (l ++ [a]) = eqsF l ++ if a.kind = 0 then [] else [a] := by
  unfold eqsF
  rw [List.filter_append]
  by_cases h : a.kind = 0
  · simp [h]
  · simp [h]
set_option maxHeartbeats 1000000 in
set_option maxRecDepth 100000 in
theorem equations_any (w : World) (q : Nat) (ds : List Dc) (ns : List Nd) (vd vn : Value) (h : ProgAt w q ds ns vd vn) (hdl : ds.length ≤ 1501) :
    Calls Try.prog 67 #[.pointer (some ⟨q, 0, none⟩)] w fun e w' => ∃ v, e = .returned v ∧ w'.ownsRow w.heap.size 126 7 v (eqsF ds).length (dcCells (eqsF ds)) ∧ Below w.heap.size w w' := by
  have c0 := h.c0
  obtain ⟨av, cap, rfl, hsh⟩ := own_shape h.decls
  obtain ⟨i0, hi0, hz0, hz1, hz2⟩ := info_parts Try.infoDecl
  have HO := hide h.decls
  have HSH := hide hsh
  clear h hsh
  go_enter Try.func67, Try.ntmps67
  go_wp2
  go_loopw [3, 11] (fun v i wr => ∃ k : Nat, k ≤ ds.length ∧ i = .int .i64 k ∧ Below w.heap.size w wr ∧ wr.ownsRow w.heap.size 126 7 v (eqsF (ds.take k)).length (dcCells (eqsF (ds.take k)))) (fun _ i _ => ds.length - (intOf i).toNat)
  case atStart => exact ⟨0, Nat.zero_le _, rfl, Below.refl _ _, World.ownsRow_nil _ _ _ _⟩
  case round =>
    obtain ⟨k, hk, rfl, hbel, hown⟩ := hrel
    by_cases hlt : k < ds.length
    · obtain ⟨g, rfl, _, hg2⟩ := HSH.out (by omega)
      obtain ⟨a, ha⟩ : ∃ a, a = ds[k]'hlt := ⟨_, rfl⟩
      have hes := eqsF_snoc (ds.take k) (ds[k]'hlt)
      rw [← List.take_succ_eq_append_getElem hlt, ← ha] at hes
      obtain ⟨x0, x1, x2, x3, x4, x5, x6⟩ := dc_later HO.out hbel hg2 hlt a ha
      have hel : (eqsF (ds.take k)).length ≤ k := Nat.le_trans (List.length_filter_le _ _) (List.length_take_le _ _)
      have j1 : (0 : Int) ≤ (k : Int) := by omega
      have j2 : (k : Int) < (ds.length : Int) := by omega
      have HES := hide hes
      have hbs := hbel.size
      clear ha hes c0
      generalize eqsF (ds.take k) = es at *
      by_cases hk0 : a.kind = 0
      · have q0 : ((a.kind : Int) != 0) = false := by rw [hk0]; rfl
        have HF : Hid (eqsF (ds.take (k + 1)) = es) := hide (by rw [HES.out, if_pos hk0, List.append_nil])
        clear hk0
        go_wp2
        go_roundw
        case rel => exact ⟨k + 1, by omega, by go_num, hbel.alloc hbel.size _, by rw [HF.out]; exact hown.alloc _⟩
        case measure => simp [intOf]; omega
      · have q0 : ((a.kind : Int) != 0) = true := by rw [bne_iff_ne]; omega
        have HF : Hid (eqsF (ds.take (k + 1)) = es ++ [a]) := hide (by rw [HES.out, if_neg hk0])
        clear hk0
        go_wp2_with (at_builtin; refine wpList_append_lies _ rfl _ _ _ rfl w.heap.size 126 i0 _ 7 64 Try.underlying67 hi0 hz0 hz1 hz2 rfl (by omega) _ es.length (dcCells es) rfl ((hown.alloc _).alloc _) ⟨wr.heap.size + 1, 0, none⟩ 1 1 [.int .i64 (a.kind : Int), .int .i64 (a.number : Int), .string a.name, .int .i64 (a.pos : Int), .int .i64 (a.place : Int), .int .i64 (a.root : Int), .int .i64 (a.fin : Int)] rfl rfl (World.news_of_block (cs := #[.int .i64 (a.kind : Int), .int .i64 (a.number : Int), .string a.name, .int .i64 (a.pos : Int), .int .i64 (a.place : Int), .int .i64 (a.root : Int), .int .i64 (a.fin : Int)]) (t := 126) (fr := (0, 0)) (by have := heap_alloc_new (wr.alloc (.cells #[.int .i64 (a.kind : Int), .int .i64 (a.number : Int), .string a.name, .int .i64 (a.pos : Int), .int .i64 (a.place : Int), .int .i64 (a.root : Int), .int .i64 (a.fin : Int)] 126)) (.cells #[.int .i64 (a.kind : Int), .int .i64 (a.number : Int), .string a.name, .int .i64 (a.pos : Int), .int .i64 (a.place : Int), .int .i64 (a.root : Int), .int .i64 (a.fin : Int)] 126); simpa using this)) (by simp [Value.oneCell']) (by omega) (by unfold maxLen; omega) (by omega) (by simp; omega) (wr.heap.size + 2) (by simp) ?_; intro gg cap2 w1 hown1 hgrow hat hlt1)
        go_roundw
        case rel =>
          refine ⟨k + 1, by omega, by go_num, ?_, ?_⟩
          · exact ((hbel.alloc hbel.size _).alloc (by simp; omega) _).grown hgrow (by simp; omega) (fun j hj => ownBlock_ge hown j hj)
          · rw [HF.out, dcCells_snoc, List.length_append]
            exact hown1
        case measure => simp [intOf]; omega
    · have ek : ds.take k = ds := List.take_of_length_le (by omega)
      rw [ek] at hown
      have HOWN := hide hown
      clear hown ek
      go_wp2
      go_ret
      exact ⟨_, rfl, HOWN.out, hbel⟩
end Go.Proofs.Ytmndgoapkmhglab
