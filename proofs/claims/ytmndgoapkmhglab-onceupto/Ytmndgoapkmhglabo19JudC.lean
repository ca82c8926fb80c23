import Derived.Test.Ytmndgoapkmhglabo18JudA
namespace Go.Proofs.Ytmndgoapkmhglab
open Go.RowKit
attribute [local go_sem ↓] Go.wp_at_zero Go.wp_at_succ
set_option maxHeartbeats 1000000 in
set_option maxRecDepth 100000 in
theorem fits_any (w : World) (q : Nat) (ds : List Dc) (ns : List Nd) (vd vn : Value) (h : ProgAt w q ds ns vd vn) (n : Nd) (truth : Bool) (hk : n.kind ≤ 6) (hd : n.kind = 2 → 0 ≤ n.decl ∧ n.decl < (ds.length : Int)) :
    Calls Try.prog 111 #[.pointer (some ⟨q, 0, none⟩), n.val, .bool truth] w fun e w' => e = .returned (.bool (fitsF ds n truth)) ∧ Below w.heap.size w w' := by
  have hc : n.kind = 0 ∨ n.kind = 1 ∨ n.kind = 2 ∨ n.kind = 3 ∨ n.kind = 4 ∨ n.kind = 5 ∨ n.kind = 6 := by omega
  clear hk
  rcases hc with hk | hk | hk | hk | hk | hk | hk
  · have HF : Hid (fitsF ds n truth = !truth) := hide (by unfold fitsF; rw [if_pos hk])
    have q0 : ((n.kind : Int) == 0) = true := by rw [hk]; rfl
    clear hk hd h
    go_enter Try.func111, Try.ntmps111
    go_wp2
    go_ret
    exact ⟨by rw [HF.out]; rfl, (Below.refl _ _).alloc (Nat.le_refl _) _⟩
  · have HF : Hid (fitsF ds n truth = truth) := hide (by unfold fitsF; rw [if_neg (by omega), if_pos (.inl hk)])
    have q0 : ((n.kind : Int) == 0) = false := by rw [hk]; rfl
    have q1 : ((n.kind : Int) == 1) = true := by rw [hk]; rfl
    clear hk hd h
    go_enter Try.func111, Try.ntmps111
    go_wp2
    go_ret
    exact ⟨by rw [HF.out]; rfl, (Below.refl _ _).alloc (Nat.le_refl _) _⟩
  · obtain ⟨hd1, hd2⟩ := hd hk
    obtain ⟨d, hdd⟩ : ∃ d : Nat, n.decl = (d : Int) := ⟨n.decl.toNat, by omega⟩
    have hdl : d < ds.length := by omega
    obtain ⟨a, ha⟩ : ∃ a, a = ds[d]'hdl := ⟨_, rfl⟩
    have hka : kindAt ds n.decl = a.kind := by unfold kindAt; rw [hdd, ha]; simp [hdl]
    have HF : Hid (fitsF ds n truth = (truth == (a.kind == 2))) := hide (by unfold fitsF; rw [if_neg (by omega), if_neg (by omega), if_pos hk, hka])
    have q0 : ((n.kind : Int) == 0) = false := by rw [hk]; rfl
    have q1 : ((n.kind : Int) == 1) = false := by rw [hk]; rfl
    have q3 : ((n.kind : Int) == 3) = false := by rw [hk]; rfl
    have q2 : ((n.kind : Int) == 2) = true := by rw [hk]; rfl
    have c0 : ∀ o, (w.alloc o).cell? ⟨q, 0, none⟩ = some vd := fun o => (World.cell?_alloc_past _ _ _ h.lt).trans h.c0
    obtain ⟨av, cap, rfl, hsh⟩ := own_shape h.decls
    obtain ⟨g, rfl, _, hg2⟩ := hsh (by omega)
    have x0 : ∀ o, (w.alloc o).cell? ⟨g, d * 7, none⟩ = some (.int .i64 (a.kind : Int)) := fun o => (dc_later h.decls ((Below.refl _ _).alloc (Nat.le_refl _) o) hg2 hdl a ha).1
    have j1 : (0 : Int) ≤ (d : Int) := by omega
    have j2 : (d : Int) < (ds.length : Int) := by omega
    obtain ⟨nk, np, nv, nn, nde, no, na, nb, nc, ndl, nbh⟩ := n
    simp only at hdd hk q0 q1 q2 q3
    subst hdd
    have hkk : ((a.kind : Int) == 2) = (a.kind == 2) := by
      by_cases e : a.kind = 2
      · rw [e]; rfl
      · have e1 : ((a.kind : Int) == 2) = false := by rw [beq_eq_false_iff_ne]; omega
        have e2 : (a.kind == 2) = false := by simpa using e
        rw [e1, e2]
    clear hk hd h hd1 hd2 ha hka hsh
    go_enter Try.func111, Try.ntmps111
    go_wp2_with fail
    go_quiet (fail)
    go_wp2
    go_ret
    exact ⟨by rw [HF.out]; rfl, below_drewN ((Below.refl _ _).alloc (Nat.le_refl _) _) _⟩
  · have HF : Hid (fitsF ds n truth = truth) := hide (by unfold fitsF; rw [if_neg (by omega), if_pos (.inr hk)])
    have q0 : ((n.kind : Int) == 0) = false := by rw [hk]; rfl
    have q1 : ((n.kind : Int) == 1) = false := by rw [hk]; rfl
    have q3 : ((n.kind : Int) == 3) = true := by rw [hk]; rfl
    clear hk hd h
    go_enter Try.func111, Try.ntmps111
    go_wp2
    go_ret
    exact ⟨by rw [HF.out]; rfl, (Below.refl _ _).alloc (Nat.le_refl _) _⟩
  · have HF : Hid (fitsF ds n truth = true) := hide (by unfold fitsF; rw [if_neg (by omega), if_neg (by omega), if_neg (by omega), if_neg (by omega)])
    have q0 : ((n.kind : Int) == 0) = false := by rw [hk]; rfl
    have q1 : ((n.kind : Int) == 1) = false := by rw [hk]; rfl
    have q3 : ((n.kind : Int) == 3) = false := by rw [hk]; rfl
    have q2 : ((n.kind : Int) == 2) = false := by rw [hk]; rfl
    have q6 : ((n.kind : Int) == 6) = false := by rw [hk]; rfl
    clear hk hd h
    go_enter Try.func111, Try.ntmps111
    go_wp2
    go_ret
    exact ⟨by rw [HF.out]; rfl, (Below.refl _ _).alloc (Nat.le_refl _) _⟩
  · have HF : Hid (fitsF ds n truth = true) := hide (by unfold fitsF; rw [if_neg (by omega), if_neg (by omega), if_neg (by omega), if_neg (by omega)])
    have q0 : ((n.kind : Int) == 0) = false := by rw [hk]; rfl
    have q1 : ((n.kind : Int) == 1) = false := by rw [hk]; rfl
    have q3 : ((n.kind : Int) == 3) = false := by rw [hk]; rfl
    have q2 : ((n.kind : Int) == 2) = false := by rw [hk]; rfl
    have q6 : ((n.kind : Int) == 6) = false := by rw [hk]; rfl
    clear hk hd h
    go_enter Try.func111, Try.ntmps111
    go_wp2
    go_ret
    exact ⟨by rw [HF.out]; rfl, (Below.refl _ _).alloc (Nat.le_refl _) _⟩
  · have HF : Hid (fitsF ds n truth = (truth == makesT n.op)) := hide (by unfold fitsF; rw [if_neg (by omega), if_neg (by omega), if_neg (by omega), if_pos hk])
    have q0 : ((n.kind : Int) == 0) = false := by rw [hk]; rfl
    have q1 : ((n.kind : Int) == 1) = false := by rw [hk]; rfl
    have q3 : ((n.kind : Int) == 3) = false := by rw [hk]; rfl
    have q2 : ((n.kind : Int) == 2) = false := by rw [hk]; rfl
    have q6 : ((n.kind : Int) == 6) = true := by rw [hk]; rfl
    clear hk hd h
    go_enter Try.func111, Try.ntmps111
    go_wp2_with (go_at_call 132; refine (makesTruth_any _ _).mono ?_; rintro e w' ⟨rfl, rfl⟩)
    go_ret
    exact ⟨by rw [HF.out]; rfl, (Below.refl _ _).alloc (Nat.le_refl _) _⟩
theorem seg_nil (ns : List Nd) : seg ns 0 0 = [] := by simp [seg]
theorem seg_drop (ns : List Nd) (a b k : Nat) (h : a + k < b) (hb : b ≤ ns.length) : (seg ns a b).drop k = (ns[a + k]'(by omega)) :: (seg ns a b).drop (k + 1) := by
  have hl : (seg ns a b).length = b - a := by simp [seg]; omega
  rw [drop_at _ k (by omega)]
  congr 1
  simp [seg]
theorem seg_len (ns : List Nd) (a b : Nat) (hb : b ≤ ns.length) : (seg ns a b).length = b - a := by simp [seg]; omega
theorem nd_seg {w wr : World} {g cap : Nat} {l : List Nd} (h : w.ownsRow 0 171 11 (.slice (some ⟨g, 0, none⟩) l.length cap) l.length (ndCells l)) (hb : Below w.heap.size w wr) (hg : g < w.heap.size) (r m : Nat) (hk : r + m < l.length) (a : Nd) (ha : a = l[r + m]'hk) :
    wr.cell? ⟨g, r * 11 + m * 11, none⟩ = some (.int .i64 (a.kind : Int)) ∧ wr.cell? ⟨g, r * 11 + m * 11 + 1, none⟩ = some (.int .i64 (a.pos : Int)) ∧ wr.cell? ⟨g, r * 11 + m * 11 + 2, none⟩ = some (.int .i64 (a.value : Int)) ∧ wr.cell? ⟨g, r * 11 + m * 11 + 3, none⟩ = some (.string a.name) ∧
    wr.cell? ⟨g, r * 11 + m * 11 + 4, none⟩ = some (.int .i64 a.decl) ∧ wr.cell? ⟨g, r * 11 + m * 11 + 5, none⟩ = some (.int .i64 (a.op : Int)) ∧ wr.cell? ⟨g, r * 11 + m * 11 + 6, none⟩ = some (.int .i64 (a.a : Int)) ∧ wr.cell? ⟨g, r * 11 + m * 11 + 7, none⟩ = some (.int .i64 (a.b : Int)) ∧
    wr.cell? ⟨g, r * 11 + m * 11 + 8, none⟩ = some (.int .i64 (a.c : Int)) ∧ wr.cell? ⟨g, r * 11 + m * 11 + 9, none⟩ = some (.bool a.delayed) ∧ wr.cell? ⟨g, r * 11 + m * 11 + 10, none⟩ = some (.bool a.behind) := by
  have e : (r + m) * 11 = r * 11 + m * 11 := Nat.add_mul _ _ _
  have := nd_later h hb hg hk a ha
  rw [e] at this
  exact this
set_option maxHeartbeats 2000000 in
set_option maxRecDepth 100000 in
theorem badName_any (w : World) (q : Nat) (ds : List Dc) (ns : List Nd) (vd vn : Value) (h : ProgAt w q ds ns vd vn) (hwf : ProgWf ds ns) :
    Calls Try.prog 83 #[.pointer (some ⟨q, 0, none⟩)] w fun e w' => e = .returned (optVal (badNameF ds ns 0 ds)) ∧ Below w.heap.size w w' := by
  have hdl := hwf.dl
  have hnl := hwf.nl
  have c0 := h.c0
  obtain ⟨av, cap, rfl, hsh⟩ := own_shape h.decls
  obtain ⟨an, capn, rfl, hshn⟩ := own_shape h.nodes
  have HSH := hide hsh
  have HSHN := hide hshn
  have HP := hide h
  have HWF := hide hwf
  clear h hsh hwf hshn
  go_enter Try.func83, Try.ntmps83
  go_wp2
  go_loopw [13] (fun i wr => ∃ k : Nat, k ≤ ds.length ∧ i = .int .i64 k ∧ Below w.heap.size w wr ∧ badNameF ds ns k (ds.drop k) = badNameF ds ns 0 ds) (fun i _ => ds.length - (intOf i).toNat)
  case atStart => exact ⟨0, Nat.zero_le _, rfl, Below.refl _ _, rfl⟩
  case round =>
    obtain ⟨k, hk, rfl, hbel, hrec⟩ := hrel
    by_cases hlt : k < ds.length
    · obtain ⟨g, rfl, _, hg2⟩ := HSH.out (by omega)
      rw [drop_at ds k hlt] at hrec
      obtain ⟨a, ha⟩ : ∃ a, a = ds[k]'hlt := ⟨_, rfl⟩
      rw [← ha] at hrec
      obtain ⟨x0, x1, x2, x3, x4, x5, x6⟩ := dc_later HP.out.decls hbel hg2 hlt a ha
      have hseg := HWF.out.segs a (by rw [ha]; exact List.getElem_mem hlt)
      have j1 : (0 : Int) ≤ (k : Int) := by omega
      have j2 : (k : Int) < (ds.length : Int) := by omega
      simp only [badNameF] at hrec
      have HREC := hide hrec
      have HSEG := hide hseg
      have hPr := HP.out.below hbel
      clear ha hrec c0 hseg
      go_wp2_with fail
      refine (find_any _ q 0 ds (.slice (some ⟨g, 0, none⟩) ds.length cap) a.name ?_ ?_ hdl).mono ?_
      · exact (hPr.below ((Below.refl _ _).alloc (Nat.le_refl _) _)).c0
      · exact (hPr.below ((Below.refl _ _).alloc (Nat.le_refl _) _)).decls
      rintro e w2 ⟨rfl, hb2⟩
      have hb02 : Below w.heap.size w w2 := (hbel.alloc hbel.size _).trans (hb2.mono (by have := hbel.size; simp; omega))
      have hN2 : w2.heap[wr.heap.size]? = some (.cells #[.int .i64 (a.kind : Int), .int .i64 (a.number : Int), .string a.name, .int .i64 (a.pos : Int), .int .i64 (a.place : Int), .int .i64 (a.root : Int), .int .i64 (a.fin : Int)] 126) := (hb2.block _ (by simp)).trans (heap_alloc_new wr _)
      have d3 := cell_of_row w2 wr.heap.size 3 _ _ _ hN2
      have d5 := cell_of_row w2 wr.heap.size 5 _ _ _ hN2
      have d6 := cell_of_row w2 wr.heap.size 6 _ _ _ hN2
      simp at d3 d5 d6
      clear x0 x1 x2 x3 x4 x5 x6 hb2 hPr hN2 hbel
      by_cases hf : findF ds a.name = (k : Int)
      · have q1 : (findF ds a.name != (k : Int)) = false := by rw [hf]; simp
        have HREC2 : Hid ((match badNodeF (seg ns a.root a.fin) with | some a => some a | none => badNameF ds ns (k + 1) (ds.drop (k + 1))) = badNameF ds ns 0 ds) := hide (by rw [← HREC.out, if_neg (by simp [hf])]; rfl)
        clear HREC hf
        have c1 := (HP.out.below hb02).c1
        rcases HSEG.out with ⟨hs1, hs2, _⟩ | ⟨hs1, hs2⟩
        · rw [hs1] at d5 HREC2
          rw [hs2] at d6 HREC2
          rw [seg_nil] at HREC2
          go_wp2_with fail
          go_quiet (fail)
          go_wp2
          go_loopw [36] (fun i wx => i = .int .i64 0 ∧ Below w.heap.size w wx) (fun _ _ => 0)
          case atStart => exact ⟨rfl, below_drewN hb02 _⟩
          case round =>
            obtain ⟨rfl, hbx⟩ := hrel
            go_wp2
            go_roundw
            case rel => exact ⟨k + 1, by omega, by go_num, hbx, by rw [← HREC2.out]; rfl⟩
            case measure => simp [intOf]; omega
        · obtain ⟨gn, rfl, _, hgn⟩ := HSHN.out (by omega)
          have hcn : ns.length ≤ capn := by
            rcases HP.out.nodes.2 with ⟨h0, _⟩ | ⟨_, c', _, h1, _, _, h2, _⟩
            · cases h0
            · cases h1; exact h2
          have i1 : (0 : Int) ≤ (a.root : Int) := by omega
          have i2 : (a.root : Int) ≤ (a.fin : Int) := by omega
          have i3 : (a.fin : Int) ≤ (capn : Int) := by omega
          have i4 : (a.root : Int) < (capn : Int) := by omega
          go_wp2_with fail
          go_quiet (fail)
          go_wp2
          go_loopw [36] (fun i wx => ∃ m : Nat, m ≤ a.fin - a.root ∧ i = .int .i64 m ∧ Below w.heap.size w wx ∧ badNodeF ((seg ns a.root a.fin).drop m) = badNodeF (seg ns a.root a.fin)) (fun i _ => (a.fin - a.root) - (intOf i).toNat)
          case atStart => exact ⟨0, Nat.zero_le _, rfl, below_drewN hb02 _, rfl⟩
          case round =>
            clear hb02 d3 d5 d6 c1
            obtain ⟨m, hm, rfl, hbx, hrb⟩ := hrel
            by_cases hml : m < a.fin - a.root
            · have hrm : a.root + m < ns.length := by omega
              obtain ⟨b, hb⟩ : ∃ b, b = ns[a.root + m]'hrm := ⟨_, rfl⟩
              rw [seg_drop ns a.root a.fin m (by omega) hs2, ← hb] at hrb
              obtain ⟨y0, y1, y2, y3, y4, y5, y6, y7, y8, y9, y10⟩ := nd_seg HP.out.nodes hbx hgn a.root m hrm b hb
              have i5 : (0 : Int) ≤ (m : Int) := by omega
              have i6 : (m : Int) < ((a.fin - a.root : Nat) : Int) := by omega
              simp only [badNodeF] at hrb
              have HRB := hide hrb
              clear hrb hb
              by_cases hk2 : b.kind = 2
              · have q2 : ((b.kind : Int) == 2) = true := by rw [hk2]; rfl
                by_cases hd0 : b.decl < 0
                · have HF : Hid (badNameF ds ns 0 ds = some b.pos) := hide (by rw [← HREC2.out, ← HRB.out, if_pos ⟨hk2, hd0⟩])
                  clear hk2
                  go_wp2
                  go_ret2
                  exact ⟨opt_some HF.out, hbx.alloc hbx.size _⟩
                · have HF : Hid (badNodeF ((seg ns a.root a.fin).drop (m + 1)) = badNodeF (seg ns a.root a.fin)) := hide (by rw [← HRB.out, if_neg (fun h => hd0 h.2)])
                  clear hk2
                  go_wp2
                  go_roundw
                  case rel => exact ⟨m + 1, by omega, by go_num, hbx.alloc hbx.size _, HF.out⟩
                  case measure => simp [intOf]; omega
              · have q2 : ((b.kind : Int) == 2) = false := by rw [beq_eq_false_iff_ne]; omega
                have HF : Hid (badNodeF ((seg ns a.root a.fin).drop (m + 1)) = badNodeF (seg ns a.root a.fin)) := hide (by rw [← HRB.out, if_neg (fun h => hk2 h.1)])
                clear hk2
                go_wp2
                go_roundw
                case rel => exact ⟨m + 1, by omega, by go_num, hbx.alloc hbx.size _, HF.out⟩
                case measure => simp [intOf]; omega
            · have HF : Hid (badNodeF (seg ns a.root a.fin) = none) := hide (by rw [← hrb, List.drop_of_length_le (by rw [seg_len ns a.root a.fin hs2]; omega)]; rfl)
              clear hrb
              go_wp2
              go_roundw
              case rel => exact ⟨k + 1, by omega, by go_num, hbx, by rw [← HREC2.out, HF.out]⟩
              case measure => simp [intOf]; omega
      · have q1 : (findF ds a.name != (k : Int)) = true := by rw [bne_iff_ne]; exact hf
        have HF : Hid (badNameF ds ns 0 ds = some a.pos) := hide (by rw [← HREC.out, if_pos hf])
        clear HREC hf
        go_wp2
        go_ret2
        exact ⟨opt_some HF.out, hb02⟩
    · have HF : Hid (badNameF ds ns 0 ds = none) := hide (by rw [← hrec, List.drop_of_length_le (by omega)]; rfl)
      clear hrec
      go_wp2
      go_ret2
      exact ⟨opt_none HF.out, hbel⟩
end Go.Proofs.Ytmndgoapkmhglab
