import Derived.Test.Ytmndgoapkmhglabo23JudI
namespace Go.Proofs.Ytmndgoapkmhglab
open Go.RowKit
attribute [local go_sem ↓] Go.wp_at_zero Go.wp_at_succ
set_option maxHeartbeats 2000000 in
set_option maxRecDepth 100000 in
theorem linksOf_any (w : World) (q : Nat) (ds : List Dc) (ns : List Nd) (vd vn : Value) (h : ProgAt w q ds ns vd vn) (hwf : ProgWf ds ns) :
    Calls Try.prog 41 #[.pointer (some ⟨q, 0, none⟩)] w fun e w' => ∃ v, e = .returned v ∧ w'.ownsRow w.heap.size 89 3 v (linksF ds ns).length (rtCells (linksF ds ns)) ∧ Below w.heap.size w w' := by
  have hdl := hwf.dl
  have c0 := h.c0
  obtain ⟨av, cap, rfl, hsh⟩ := own_shape h.decls
  obtain ⟨i0, hi0, hz0, hz1, hz2⟩ := info_parts Try.infoRoute
  have HSH := hide hsh
  have HP := hide h
  have HWF := hide hwf
  clear h hsh hwf
  go_enter Try.func41, Try.ntmps41
  go_wp2
  go_loopw [3, 14] (fun v i wr => ∃ (k : Nat) (L : List Rt), k ≤ ds.length ∧ i = .int .i64 k ∧ Below w.heap.size w wr ∧ L.length ≤ 4 * k ∧ L ++ linksFrom ds ns k (ds.drop k) = linksF ds ns ∧ wr.ownsRow w.heap.size 89 3 v L.length (rtCells L)) (fun _ i _ => ds.length - (intOf i).toNat)
  case atStart => exact ⟨0, [], Nat.zero_le _, rfl, Below.refl _ _, by simp, rfl, World.ownsRow_nil _ _ _ _⟩
  case round =>
    obtain ⟨k, L, hk, rfl, hbel, hll, hrec, hown⟩ := hrel
    by_cases hlt : k < ds.length
    · obtain ⟨g, rfl, _, hg2⟩ := HSH.out (by omega)
      obtain ⟨a, ha⟩ : ∃ a, a = ds[k]'hlt := ⟨_, rfl⟩
      rw [drop_at ds k hlt, ← ha] at hrec
      obtain ⟨x0, x1, x2, x3, x4, x5, x6⟩ := dc_later HP.out.decls hbel hg2 hlt a ha
      have hpl := HWF.out.place a (by rw [ha]; exact List.getElem_mem hlt)
      have j1 : (0 : Int) ≤ (k : Int) := by omega
      have j2 : (k : Int) < (ds.length : Int) := by omega
      simp only [linksFrom] at hrec
      have HREC := hide hrec
      have HOWN := hide hown
      clear ha hrec c0 hown
      by_cases hk0 : a.kind = 0
      · have q0 : ((a.kind : Int) == 0) = true := by rw [hk0]; rfl
        have HF : Hid (L ++ linksFrom ds ns (k + 1) (ds.drop (k + 1)) = linksF ds ns) := hide (by rw [← HREC.out, if_pos hk0, List.nil_append])
        clear hk0
        go_wp2
        go_roundw
        case rel => exact ⟨k + 1, L, by omega, by go_num, hbel.alloc hbel.size _, by omega, HF.out, HOWN.out.alloc _⟩
        case measure => simp [intOf]; omega
      · have q0 : ((a.kind : Int) == 0) = false := by rw [beq_eq_false_iff_ne]; omega
        have HF : Hid (L ++ (linksTo ds ns k a 4 ++ linksFrom ds ns (k + 1) (ds.drop (k + 1))) = linksF ds ns) := hide (by rw [← HREC.out, if_neg hk0])
        have HN : Hid ((wr.alloc (.cells #[.int .i64 (a.kind : Int), .int .i64 (a.number : Int), .string a.name, .int .i64 (a.pos : Int), .int .i64 (a.place : Int), .int .i64 (a.root : Int), .int .i64 (a.fin : Int)] 126)).heap[wr.heap.size]? = some (.cells #[.int .i64 (a.kind : Int), .int .i64 (a.number : Int), .string a.name, .int .i64 (a.pos : Int), .int .i64 (a.place : Int), .int .i64 (a.root : Int), .int .i64 (a.fin : Int)] 126)) := hide (heap_alloc_new wr _)
        have hNb : w.heap.size ≤ wr.heap.size := hbel.size
        clear hk0 HREC
        go_wp2
        generalize hNN : wr.heap.size = N at *
        have HNN := hide hNN
        clear hNN
        go_loopw [3, 6] (fun v i wx => ∃ p : Nat, p ≤ 4 ∧ i = .int .i64 p ∧ Below w.heap.size w wx ∧ wx.ownsRow w.heap.size 89 3 v (L ++ linksTo ds ns k a p).length (rtCells (L ++ linksTo ds ns k a p)) ∧ (∀ gg, v.ownBlock = some gg → gg ≠ N) ∧ N < wx.heap.size ∧
            wx.heap[N]? = some (.cells #[.int .i64 (a.kind : Int), .int .i64 (a.number : Int), .string a.name, .int .i64 (a.pos : Int), .int .i64 (a.place : Int), .int .i64 (a.root : Int), .int .i64 (a.fin : Int)] 126)) (fun _ i _ => 4 - (intOf i).toNat)
        case atStart => exact ⟨0, by omega, rfl, hbel.alloc hbel.size _, by simp only [linksTo, List.append_nil]; exact HOWN.out.alloc _, fun gg hg => by have := (HOWN.out.lt gg hg).2; have := HNN.out; omega, by simp; have := HNN.out; omega, HN.out⟩
        case round =>
          clear hbel HOWN HN HNN
          obtain ⟨p, hp, rfl, hbx, hown, hvb, hNl, hNc⟩ := hrel
          by_cases hpl4 : p < 4
          · obtain ⟨d0, d1, d2, d3, d4, d5, d6⟩ := row7 hNc
            have j3 : (0 : Int) ≤ (p : Int) := by omega
            have j4 : (p : Int) < 4 := by omega
            have hLt := linksTo_len ds ns k a p
            have HL : Hid (L ++ linksTo ds ns k a (p + 1) = (L ++ linksTo ds ns k a p) ++ linkAt ds ns k a p) := hide (by simp [linksTo])
            have hlen : (L ++ linksTo ds ns k a p).length ≤ 6010 := by simp; omega
            have HNC := hide hNc
            have HVB := hide hvb
            clear hNc hvb
            go_wp2_with fail
            refine (uses_any _ q ds ns _ _ (HP.out.below hbx) HWF.out k p).mono ?_
            rintro e w2 ⟨rfl, hb2⟩
            have hbx2 : Below w.heap.size w w2 := hbx.trans (hb2.mono hbx.size)
            have hown2 := bel_own hown hb2
            have hNc2 := (hb2.block N hNl).trans HNC.out
            have hNl2 : N < w2.heap.size := Nat.lt_of_lt_of_le hNl hb2.size
            clear hown hbx hb2 HNC hNl d0 d1 d2 d3 d4 d5 d6
            obtain ⟨d0, d1, d2, d3, d4, d5, d6⟩ := row7 hNc2
            have HNC := hide hNc2
            have HLA : Hid (linkAt ds ns k a p = if (usesF ds ns k p).1 = true ∧ p ≠ a.place then [⟨a.number, p, !(usesF ds ns k p).2⟩] else []) := hide rfl
            clear hNc2
            generalize (usesF ds ns k p).1 = ub at *
            generalize (usesF ds ns k p).2 = pb at *
            generalize L ++ linksTo ds ns k a p = LL at *
            by_cases hpp : p = a.place
            · have q1 : ((p : Int) != (a.place : Int)) = false := by rw [hpp]; simp
              have HF : Hid (L ++ linksTo ds ns k a (p + 1) = LL) := hide (by rw [HL.out, HLA.out, if_neg (fun h => h.2 hpp), List.append_nil])
              clear hpp
              cases ub
              all_goals
                go_wp2
                go_roundw
                case rel => exact ⟨p + 1, by omega, by go_num, hbx2, by rw [HF.out]; exact hown2, HVB.out, hNl2, HNC.out⟩
                case measure => simp [intOf]; omega
            · have q1 : ((p : Int) != (a.place : Int)) = true := by rw [bne_iff_ne]; omega
              cases ub
              · have HF : Hid (L ++ linksTo ds ns k a (p + 1) = LL) := hide (by rw [HL.out, HLA.out, if_neg (fun h => by cases h.1), List.append_nil])
                clear hpp
                go_wp2
                go_roundw
                case rel => exact ⟨p + 1, by omega, by go_num, hbx2, by rw [HF.out]; exact hown2, HVB.out, hNl2, HNC.out⟩
                case measure => simp [intOf]; omega
              · have HF : Hid (L ++ linksTo ds ns k a (p + 1) = LL ++ [⟨a.number, p, !pb⟩]) := hide (by rw [HL.out, HLA.out, if_pos ⟨rfl, hpp⟩])
                have hbs := hbx2.size
                clear hpp
                go_wp2_with (at_builtin; refine wpList_append_lies _ rfl _ _ _ rfl w.heap.size 89 i0 _ 3 24 Try.underlying46 hi0 hz0 hz1 hz2 rfl (by omega) _ LL.length (rtCells LL) rfl (hown2.alloc _) ⟨w2.heap.size, 0, none⟩ 1 1 [.int .i64 (a.number : Int), .int .i64 (p : Int), .bool (!pb)] rfl rfl (World.news_of_block (cs := #[.int .i64 (a.number : Int), .int .i64 (p : Int), .bool (!pb)]) (t := 89) (fr := (0, 0)) (heap_alloc_new w2 _)) (by simp [Value.oneCell']) (by omega) (by unfold maxLen; omega) (by omega) (by simp; omega) (w2.heap.size + 1) (by simp) ?_; intro gg cap2 w3 hown3 hgrow hat hlt3)
                go_roundw
                case rel =>
                  refine ⟨p + 1, by omega, by go_num, ?_, ?_, ?_, ?_, ?_⟩
                  · exact (hbx2.alloc hbx2.size _).grown hgrow (by simp; omega) (fun j hj => ownBlock_ge hown2 j hj)
                  · rw [HF.out, rtCells_snoc, List.length_append]
                    exact hown3
                  · intro g3 hg3
                    have e3 : g3 = gg := by simpa [Value.ownBlock] using hg3.symm
                    subst e3
                    rcases hat with hh | hh
                    · exact HVB.out _ hh
                    · omega
                  · have := hgrow.size; simp at this; omega
                  · rw [hgrow.block N (by simp; omega) (fun e => HVB.out N e.symm rfl), Below.heap_alloc _ _ _ hNl2]
                    exact HNC.out
                case measure => simp [intOf]; omega
          · have ep : p = 4 := by omega
            subst ep
            have HOWN := hide hown
            have hL4 := linksTo_len ds ns k a 4
            clear hown hvb hNc
            go_wp2
            go_roundw
            case rel => exact ⟨k + 1, L ++ linksTo ds ns k a 4, by omega, by go_num, hbx, by simp; omega, by rw [List.append_assoc]; exact HF.out, HOWN.out⟩
            case measure => simp [intOf]; omega
    · have HF : Hid (linksF ds ns = L) := hide (by rw [← hrec, List.drop_of_length_le (by omega)]; simp [linksFrom])
      have HOWN := hide hown
      clear hrec hown
      go_wp2
      go_ret
      exact ⟨_, rfl, by rw [HF.out]; exact HOWN.out, hbel⟩
theorem own_same {w w' : World} {B e size n : Nat} {v : Value} {xs : List Value} (h : w.ownsRow B e size v n xs) (hb : ∀ g, v.ownBlock = some g → w'.heap[g]? = w.heap[g]?) : w'.ownsRow B e size v n xs := by
  refine ⟨h.1, ?_⟩
  rcases h.2 with h0 | ⟨g, cap, cur, hv, h1, h2, h3⟩
  · exact .inl h0
  · exact .inr ⟨g, cap, cur, hv, h1, (hb g (by rw [hv]; rfl)).trans h2, h3⟩
theorem rtAt_cells {w : World} {B g cap : Nat} {l : List Rt} (h : w.ownsRow B 89 3 (.slice (some ⟨g, 0, none⟩) l.length cap) l.length (rtCells l)) {i : Nat} (hi : i < l.length) (r : Rt) (hr : r = l[i]'hi) :
    w.cell? ⟨g, i * 3, none⟩ = some (.int .i64 (r.src : Int)) ∧ w.cell? ⟨g, i * 3 + 1, none⟩ = some (.int .i64 (r.dst : Int)) ∧ w.cell? ⟨g, i * 3 + 2, none⟩ = some (.bool r.late) := by
  have hj : ∀ j, j < 3 → w.cell? ⟨g, i * 3 + j, none⟩ = r.cells[j]? := fun j hj => by
    rw [h.cellAt (i * 3 + j) (by omega), hr]
    exact flat_get Rt.cells 3 rt_len l i j hi hj
  exact ⟨hj 0 (by omega), hj 1 (by omega), hj 2 (by omega)⟩
set_option maxHeartbeats 2000000 in
set_option maxRecDepth 100000 in
theorem waits_any (w : World) (q : Nat) (ds : List Dc) (ns : List Nd) (vd vn : Value) (h : ProgAt w q ds ns vd vn) (hwf : ProgWf ds ns) (hL : ∀ r ∈ linksF ds ns, r.src < (eqsF ds).length ∧ r.dst < 4) (hll : (linksF ds ns).length ≤ 6100) :
    Calls Try.prog 56 #[.pointer (some ⟨q, 0, none⟩)] w fun e w' => e = .returned (.slice (some ⟨w.heap.size, 0, none⟩) 4 4) ∧ Mat w' w.heap.size 4 (fun i => w.heap.size + 1 + i) (waitsM (eqsF ds) (linksF ds ns) noM) ∧ Below w.heap.size w w' := by
  have hm1 := run_make_row' (P := Try.prog) 79 113 (.slice none 0 0) 24 Try.underlying79 Try.infoBools rfl .i64 .i64 4 (by omega) (by omega)
  have hm2 := run_make_row' (P := Try.prog) 113 4 (.bool false) 1 Try.underlying113 Try.infoBool rfl .i64 .i64 4 (by omega) (by omega)
  simp only [show ((4 : Nat) : Int) = 4 from rfl] at hm1 hm2
  have HR0 := hide (World.rowIs_made w (.slice none 0 0) 4 113)
  have hdl := hwf.dl
  have HP := hide h
  have HWF := hide hwf
  have HL := hide hL
  have hel : (eqsF ds).length ≤ 1501 := Nat.le_trans (List.length_filter_le _ _) hdl
  have HEP : Hid (∀ d ∈ eqsF ds, d.place < 4) := hide (fun d hd => hwf.place d (List.mem_filter.1 hd).1)
  clear h hwf hL
  go_enter Try.func56, Try.ntmps56
  go_wp2
  go_loopw [12] (fun i wr => ∃ k : Nat, k ≤ 4 ∧ i = .int .i64 k ∧ wr.heap.size = w.heap.size + 1 + k ∧ Below w.heap.size w wr ∧
      wr.rowIs w.heap.size 113 4 (fun i => if i < k then .slice (some ⟨w.heap.size + 1 + i, 0, none⟩) 4 4 else .slice none 0 0) ∧ (∀ i, i < k → wr.rowIs (w.heap.size + 1 + i) 4 4 (fun _ => .bool false))) (fun i _ => 4 - (intOf i).toNat)
  case atStart => exact ⟨0, Nat.zero_le _, rfl, by simp, (Below.refl _ _).alloc (Nat.le_refl _) _, HR0.out.congr (fun i _ => by simp), fun i hi => by omega⟩
  case round =>
    obtain ⟨k, hk, rfl, hsz, hbel, hout, hrows⟩ := hrel
    by_cases hlt : k < 4
    · have j1 : (0 : Int) ≤ (k : Int) := by omega
      have j2 : (k : Int) < 4 := by omega
      have lg : w.heap.size < wr.heap.size := by omega
      have x0 : ∀ o, (wr.alloc o).cell? ⟨w.heap.size, k, none⟩ = some (.slice none 0 0) := fun o => (World.cell?_alloc_past _ _ _ lg).trans ((hout.cell hlt).trans (by simp))
      have f0 : ∀ o, (wr.alloc o).frozen? ⟨w.heap.size, k, none⟩ = false := fun o => (World.frozen?_alloc_past _ _ _ lg).trans (hout.frozen k)
      have HSZ := hide hsz
      have HOUT := hide hout
      have HROWS := hide hrows
      clear hsz hout hrows
      go_wp2
      go_roundw
      case rel =>
        have e1 : wr.heap.size = w.heap.size + 1 + k := HSZ.out
        refine ⟨k + 1, by omega, by go_num, by simp; omega, ?_, ?_, ?_⟩
        · first | exact (hbel.alloc (by omega) _).setCell (Nat.le_refl _) _ | exact (hbel.setCell (Nat.le_refl _) _).alloc (by simp; omega) _
        · have h1 := (HOUT.out.set k (.slice (some ⟨wr.heap.size, 0, none⟩) 4 4)).alloc (.cells (madeCells #[.bool false] 4) 4)
          refine World.rowIs.congr ?_ (f := (fun j => if j = k then .slice (some ⟨wr.heap.size, 0, none⟩) 4 4 else if j < k then .slice (some ⟨w.heap.size + 1 + j, 0, none⟩) 4 4 else .slice none 0 0)) (fun i hi => ?_)
          · exact h1
          · by_cases e : i = k
            · subst e; rw [if_pos rfl, if_pos (by omega), e1]
            · rw [if_neg e]
              by_cases h2 : i < k
              · rw [if_pos h2, if_pos (by omega)]
              · rw [if_neg h2, if_neg (by omega)]
        · intro i hi
          by_cases e : i = k
          · subst e
            have h2 := World.rowIs_made (wr.setCell ⟨w.heap.size, i, none⟩ (.slice (some ⟨wr.heap.size, 0, none⟩) 4 4)) (.bool false) 4 4
            simp only [World.size_setCell] at h2
            rw [← e1]
            exact h2
          · exact ((HROWS.out i (by omega)).setOther (a := ⟨w.heap.size, k, none⟩) (by show w.heap.size + 1 + i ≠ w.heap.size; omega) _).alloc _
      case measure => simp [intOf]; omega
    · have ek : k = 4 := by omega
      subst ek
      have hm2' : Mat wr w.heap.size 4 (fun i => w.heap.size + 1 + i) noM := ⟨fun i hi => (hout.cell hi).trans (by simp [hi]), fun i hi => hrows i hi, fun i j _ _ e => by omega, fun i _ => by omega⟩
      have hs2 := hsz
      clear hsz hout hrows HR0 hm1 hm2
      go_wp2_with fail
      refine (equations_any wr q ds ns vd vn (HP.out.below hbel) hdl).mono ?_
      rintro e w1 ⟨ve, rfl, he1, hb1⟩
      have hb01 : Below w.heap.size w w1 := hbel.trans (hb1.mono hbel.size)
      go_wp2_with fail
      refine (linksOf_any w1 q ds ns vd vn (HP.out.below hb01) HWF.out).mono ?_
      rintro e w3 ⟨vl, rfl, hl3, hb3⟩
      have hb03 : Below w.heap.size w w3 := hb01.trans (hb3.mono hb01.size)
      have hw1 := hb1.size
      have hs3 := hb3.size
      have hm3 : Mat w3 w.heap.size 4 (fun i => w.heap.size + 1 + i) noM := hm2'.keep ((hb3.block _ (by omega)).trans (hb1.block _ (by omega))) (fun i hi => (hb3.block _ (by omega)).trans (hb1.block _ (by omega)))
      have he3 : w3.ownsRow wr.heap.size 126 7 ve (eqsF ds).length (dcCells (eqsF ds)) := own_same he1 (fun g hg => hb3.block g (he1.lt g hg).2)
      have hbe : ∀ g, ve.ownBlock = some g → wr.heap.size ≤ g ∧ g < w1.heap.size := fun g hg => he1.lt g hg
      have hbl : ∀ g, vl.ownBlock = some g → w1.heap.size ≤ g ∧ g < w3.heap.size := fun g hg => hl3.lt g hg
      obtain ⟨ae, ce, rfl, hshe⟩ := own_shape he3
      obtain ⟨al, cl, rfl, hshl⟩ := own_shape hl3
      generalize w1.heap.size = G2 at *
      have HM3 := hide hm3
      have HE3 := hide he3
      have HL3 := hide hl3
      have HSE := hide hshe
      have HSL := hide hshl
      have HBE := hide hbe
      have HBL := hide hbl
      clear he1 hb1 hm2' hb01 hl3 hb3 hm3 he3 hshe hshl hbe hbl hbel
      generalize wr.heap.size = G1 at *
      obtain ⟨es, hes⟩ : ∃ es, es = eqsF ds := ⟨_, rfl⟩
      obtain ⟨ls, hls⟩ : ∃ ls, ls = linksF ds ns := ⟨_, rfl⟩
      rw [← hes] at HE3 HSE HEP hel HL
      rw [← hls] at HL3 HSL HL hll
      have HES := hide hes
      have HLS := hide hls
      rw [← hes, ← hls]
      clear hes hls
      go_wp2
      go_loopw [25] (fun i wr => ∃ (k : Nat) (M : Mx), k ≤ ls.length ∧ i = .int .i64 k ∧ Below w.heap.size w wr ∧ Fr (fun j => G1 ≤ j ∧ j < w3.heap.size) w3 wr ∧ Mat wr w.heap.size 4 (fun i => w.heap.size + 1 + i) M ∧ waitsM es (ls.drop k) M = waitsM es ls noM) (fun i _ => ls.length - (intOf i).toNat)
      case atStart => exact ⟨0, noM, Nat.zero_le _, rfl, hb03, Fr.refl _ _, HM3.out, rfl⟩
      case round =>
        clear hb03 HM3
        obtain ⟨k, M, hk, rfl, hbel, hfr, hmat, hrec⟩ := hrel
        by_cases hlt : k < ls.length
        · obtain ⟨gl, rfl, _, hgl⟩ := HSL.out (by omega)
          have hol := own_same HL3.out (fun g hg => hfr.block g (by have := HBL.out g hg; omega))
          obtain ⟨r, hr⟩ : ∃ r, r = ls[k]'hlt := ⟨_, rfl⟩
          obtain ⟨x0, x1, x2⟩ := rtAt_cells hol hlt r hr
          rw [drop_at ls k hlt, ← hr] at hrec
          obtain ⟨hr1, hr2⟩ := HL.out r (by rw [hr]; exact List.getElem_mem hlt)
          have j1 : (0 : Int) ≤ (k : Int) := by omega
          have j2 : (k : Int) < (ls.length : Int) := by omega
          simp only [waitsM] at hrec
          have HREC := hide hrec
          have HMAT := hide hmat
          have HFR := hide hfr
          have hsw := hfr.size
          clear hr hrec hmat hol hfr
          by_cases hlate : r.late = true
          · have HF : Hid (waitsM es (ls.drop (k + 1)) M = waitsM es ls noM) := hide (by rw [← HREC.out, if_pos hlate])
            go_wp2
            go_roundw
            case rel => exact ⟨k + 1, M, by omega, by go_num, hbel.alloc hbel.size _, HFR.out.trans (Fr.of_below ((Below.refl _ _).alloc (Nat.le_refl _) _) (fun j hj => by omega)), HMAT.out.alloc _, HF.out⟩
            case measure => simp [intOf]; omega
          · have hlate' : r.late = false := by simpa using hlate
            obtain ⟨ge, rfl, _, hge⟩ := HSE.out (by omega)
            obtain ⟨d, hd⟩ : ∃ d, d = es[r.src]'hr1 := ⟨_, rfl⟩
            have hoe := own_zero (own_same HE3.out (fun g hg => HFR.out.block g (by have := HBE.out g hg; omega)))
            have y4 := dcAt_cells hoe hr1 4 (by omega)
            rw [← hd] at y4
            simp [Dc.cells] at y4
            have hdp : d.place < 4 := HEP.out d (by rw [hd]; exact List.getElem_mem hr1)
            have HF : Hid (waitsM es (ls.drop (k + 1)) (upd M r.dst d.place true) = waitsM es ls noM) := hide (by rw [← HREC.out, if_neg hlate]; simp [hr1, hd])
            have lge : ge < wr.heap.size := by omega
            have y4' : ∀ o, (wr.alloc o).cell? ⟨ge, r.src * 7 + 4, none⟩ = some (.int .i64 (d.place : Int)) := fun o => (World.cell?_alloc_past _ _ _ lge).trans y4
            have o1 : ∀ o, (wr.alloc o).cell? ⟨w.heap.size, r.dst, none⟩ = some (.slice (some ⟨w.heap.size + 1 + r.dst, 0, none⟩) 4 4) := fun o => (HMAT.out.alloc o).outer _ hr2
            have o2 : ∀ o, (wr.alloc o).cell? ⟨w.heap.size + 1 + r.dst, d.place, none⟩ = some (.bool (M r.dst d.place)) := fun o => (HMAT.out.alloc o).cell hr2 hdp
            have o3 : ∀ o, (wr.alloc o).frozen? ⟨w.heap.size + 1 + r.dst, d.place, none⟩ = false := fun o => (HMAT.out.alloc o).froz hr2 _
            have i1 : (0 : Int) ≤ (r.src : Int) := by omega
            have i2 : (r.src : Int) < (es.length : Int) := by omega
            have i3 : (0 : Int) ≤ (r.dst : Int) := by omega
            have i4 : (r.dst : Int) < 4 := by omega
            have i5 : (0 : Int) ≤ (d.place : Int) := by omega
            have i6 : (d.place : Int) < 4 := by omega
            clear hlate hoe y4 hd
            go_wp2
            go_roundw
            case rel =>
              refine ⟨k + 1, upd M r.dst d.place true, by omega, by go_num, ?_, ?_, ?_, HF.out⟩
              · first | exact (hbel.alloc hbel.size _).setCell (by show w.heap.size ≤ w.heap.size + 1 + r.dst; omega) _ | exact (hbel.setCell (by show w.heap.size ≤ w.heap.size + 1 + r.dst; omega) _).alloc (by simp; exact hbel.size) _
              · have hf1 := HFR.out.trans (Fr.of_below (X := fun j => G1 ≤ j ∧ j < w3.heap.size) ((Below.refl _ wr).alloc (Nat.le_refl _) (.cells #[.int .i64 (r.src : Int), .int .i64 (r.dst : Int), .bool false] 89)) (fun j hj => by omega))
                have hf2 := HFR.out.setCell (n := w.heap.size + 1 + r.dst) (i := d.place) (by omega) (.bool true)
                first | exact hf1.setCell (by omega) _ | exact hf2.trans (Fr.of_below ((Below.refl _ _).alloc (Nat.le_refl _) _) (fun j hj => by simp; omega))
              · first | exact (HMAT.out.alloc _).set hr2 _ _ | exact (HMAT.out.set hr2 _ _).alloc _
            case measure => simp [intOf]; omega
        · have HF : Hid (waitsM es ls noM = M) := hide (by rw [← hrec, List.drop_of_length_le (by omega)]; rfl)
          have HMAT := hide hmat
          clear hrec hmat hfr
          go_wp2
          go_ret
          exact ⟨rfl, by rw [← HES.out, ← HLS.out, HF.out]; exact HMAT.out, hbel⟩
set_option maxHeartbeats 2000000 in
set_option maxRecDepth 100000 in
theorem loop_any (w : World) (q : Nat) (ds : List Dc) (ns : List Nd) (vd vn : Value) (h : ProgAt w q ds ns vd vn) (hwf : ProgWf ds ns) (hL : ∀ r ∈ linksF ds ns, r.src < (eqsF ds).length ∧ r.dst < 4) (hll : (linksF ds ns).length ≤ 6100) :
    Calls Try.prog 86 #[.pointer (some ⟨q, 0, none⟩)] w fun e w' => e = .returned (optVal (loopF ds ns)) ∧ Below w.heap.size w w' := by
  have hdl := hwf.dl
  have HP := hide h
  have HWF := hide hwf
  have HL := hide hL
  have hel : (eqsF ds).length ≤ 1501 := Nat.le_trans (List.length_filter_le _ _) hdl
  have HEP : Hid (∀ d ∈ eqsF ds, d.place < 4) := hide (fun d hd => hwf.place d (List.mem_filter.1 hd).1)
  have HLF : Hid (loopF ds ns = firstAt (warsh (waitsM (eqsF ds) (linksF ds ns) noM) 4) (eqsF ds)) := hide rfl
  clear h hwf hL
  go_enter Try.func86, Try.ntmps86
  go_wp2_with fail
  refine (waits_any w q ds ns vd vn HP.out HWF.out HL.out hll).mono ?_
  rintro e w2 ⟨rfl, hm2, hb2⟩
  have hw2 := hb2.size
  have hG2 : w.heap.size < w2.heap.size := hm2.lt (by omega)
  go_wp2_with fail
  refine (follow_any w2 w.heap.size 4 4 _ _ hm2 (by omega)).mono ?_
  rintro e w3 ⟨rfl, hm3, hro3⟩
  have hb3 : Below w.heap.size w w3 := hb2.trans (hro3.below (fun i _ => by omega))
  go_wp2_with fail
  refine (equations_any w3 q ds ns vd vn (HP.out.below hb3) hdl).mono ?_
  rintro e w4 ⟨ve, rfl, he4, hb34⟩
  have hb4 : Below w.heap.size w w4 := hb3.trans (hb34.mono hb3.size)
  have hl3 : w.heap.size < w3.heap.size := hm3.lt (by omega)
  have hm4 : Mat w4 w.heap.size 4 (fun i => w.heap.size + 1 + i) (warsh (waitsM (eqsF ds) (linksF ds ns) noM) 4) := hm3.keep (hb34.block _ hl3) (fun i hi => hb34.block _ ((hm3.rows i hi).lt))
  obtain ⟨ae, ce, rfl, hshe⟩ := own_shape he4
  have hoe4 := own_zero he4
  have HLF2 := HLF
  have HSE := hide hshe
  have HC := HLF
  have HM4 := hide hm4
  have HO4 := hide hoe4
  have hlt4 : w.heap.size < w4.heap.size := hm4.lt (by omega)
  have hge4 : ∀ ge, ae = some ⟨ge, 0, none⟩ → ge < w4.heap.size := fun ge h => by
    have h1 : (Value.slice ae (eqsF ds).length ce).ownBlock = some ge := by rw [h]; rfl
    have := (hoe4.lt ge h1).2
    exact this
  have HGE := hide hge4
  clear hm4 hm3 hm2 hro3 hb2 hb3 hb34 he4 hshe hoe4 hge4 HLF HLF2 hG2 hl3 hw2
  generalize warsh (waitsM (eqsF ds) (linksF ds ns) noM) 4 = MW at *
  generalize eqsF ds = es at *
  go_wp2
  go_loopw [14] (fun i wx => ∃ j : Nat, j ≤ es.length ∧ i = .int .i64 j ∧ Below w.heap.size w wx ∧ Below w4.heap.size w4 wx ∧ firstAt MW (es.drop j) = firstAt MW es) (fun i _ => es.length - (intOf i).toNat)
  case atStart => exact ⟨0, Nat.zero_le _, rfl, hb4, Below.refl _ _, rfl⟩
  case round =>
    clear hb4
    obtain ⟨k, hk, rfl, hbx, hbx4, hrb⟩ := hrel
    by_cases hlt : k < es.length
    · obtain ⟨ge, rfl, _, _⟩ := HSE.out (by omega)
      rw [drop_at es k hlt] at hrb
      obtain ⟨a, ha⟩ : ∃ a, a = es[k]'hlt := ⟨_, rfl⟩
      rw [← ha] at hrb
      obtain ⟨x0, x1, x2, x3, x4, x5, x6⟩ := dc_later HO4.out hbx4 (HGE.out ge rfl) hlt a ha
      have hap : a.place < 4 := HEP.out a (by rw [ha]; exact List.getElem_mem hlt)
      have hmx : Mat wr w.heap.size 4 (fun i => w.heap.size + 1 + i) MW := HM4.out.keep (hbx4.block _ hlt4) (fun i hi => hbx4.block _ ((HM4.out.rows i hi).lt))
      have j1 : (0 : Int) ≤ (k : Int) := by omega
      have j2 : (k : Int) < (es.length : Int) := by omega
      have j3 : (0 : Int) ≤ (a.place : Int) := by omega
      have j4 : (a.place : Int) < 4 := by omega
      simp only [firstAt] at hrb
      have o1 : ∀ o, (wr.alloc o).cell? ⟨w.heap.size, a.place, none⟩ = some (.slice (some ⟨w.heap.size + 1 + a.place, 0, none⟩) 4 4) := fun o => (hmx.alloc o).outer _ hap
      have o2 : ∀ o, (wr.alloc o).cell? ⟨w.heap.size + 1 + a.place, a.place, none⟩ = some (.bool (MW a.place a.place)) := fun o => (hmx.alloc o).cell hap hap
      have HRB := hide hrb
      have hb4s := hbx4.size
      clear ha hrb hmx
      by_cases hs : MW a.place a.place = true
      · have HF2 : Hid (loopF ds ns = some a.pos) := hide (by rw [HC.out, ← HRB.out, if_pos hs])
        go_wp2_with fail
        go_quiet (fail)
        go_wp2
        go_ret2
        exact ⟨opt_some HF2.out, below_drewN (hbx.alloc hbx.size _) _⟩
      · have hs' : MW a.place a.place = false := by simpa using hs
        have HF2 : Hid (firstAt MW (es.drop (k + 1)) = firstAt MW es) := hide (by rw [← HRB.out, if_neg hs])
        clear hs
        go_wp2_with fail
        go_quiet (fail)
        go_wp2
        go_roundw
        case rel => exact ⟨k + 1, by omega, by go_num, below_drewN (hbx.alloc hbx.size _) _, below_drewN (hbx4.alloc hb4s _) _, HF2.out⟩
        case measure => simp [intOf]; omega
    · have HF2 : Hid (loopF ds ns = none) := hide (by rw [HC.out, ← hrb, List.drop_of_length_le (by omega)]; rfl)
      clear hrb
      go_wp2
      go_ret2
      exact ⟨opt_none HF2.out, hbx⟩
end Go.Proofs.Ytmndgoapkmhglab
