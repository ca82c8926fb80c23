import Derived.Test.YtbmhafagdchjfaaDoorM13JudE
namespace Go.Proofs.YtbmhafagdchjfaaDoor
open Go.RowKit
attribute [local go_sem ↓] Go.wp_at_zero Go.wp_at_succ

theorem Tryd.infoBools : (Tryd.prog.info? 87).map (fun i => (i.zero, i.size, i.bytes)) = some (some (.slice none 0 0), 1, 24) := by kernel_rfl

theorem Mat.lt {w : World} {g n : Nat} {R : Nat → Nat} {M : Mx} (h : Mat w g n R M) (hn : 0 < n) : g < w.heap.size := World.block_lt_of_cell? w _ (h.outer 0 hn)
theorem Mat.alloc {w : World} {g n : Nat} {R : Nat → Nat} {M : Mx} (h : Mat w g n R M) (o : Obj) : Mat (w.alloc o) g n R M := by
  refine ⟨fun i hi => ?_, fun i hi => (h.rows i hi).alloc o, h.inj, h.ne⟩
  rw [← h.outer i hi]
  exact World.cell?_alloc_past _ _ _ (h.lt (by omega))
theorem Mat.drew {w : World} {g n : Nat} {R : Nat → Nat} {M : Mx} (h : Mat w g n R M) : Mat w.drew g n R M := ⟨h.outer, h.rows, h.inj, h.ne⟩
theorem Mat.drewN {w : World} {g n : Nat} {R : Nat → Nat} {M : Mx} (h : Mat w g n R M) (k : Nat) : Mat (w.drewN k) g n R M := h.keep rfl (fun _ _ => rfl)

set_option maxHeartbeats 1000000 in
set_option maxRecDepth 100000 in
theorem square_any (w : World) (n : Nat) (hn : n ≤ 1501) :
    Calls Tryd.prog 53 #[.int .i64 (n : Int)] w fun e w' => e = .returned (.slice (some ⟨w.heap.size, 0, none⟩) n n) ∧ Mat w' w.heap.size n (fun i => w.heap.size + 1 + i) noM ∧ Below w.heap.size w w' ∧ w'.heap.size = w.heap.size + 1 + n := by
  have hm1 := run_make_row' (P := Tryd.prog) 84 87 (.slice none 0 0) 24 Tryd.underlying84 Tryd.infoBools rfl .i64 .i64 n (by omega) (by omega)
  have hm2 := run_make_row' (P := Tryd.prog) 87 4 (.bool false) 1 Tryd.underlying87 Tryd.infoBool rfl .i64 .i64 n (by omega) (by omega)
  have HR0 := hide (World.rowIs_made w (.slice none 0 0) n 87)
  go_enter Tryd.func53, Tryd.ntmps53
  go_wp2
  go_loopw [9] (fun i wr => ∃ k : Nat, k ≤ n ∧ i = .int .i64 k ∧ wr.heap.size = w.heap.size + 1 + k ∧ Below w.heap.size w wr ∧
      wr.rowIs w.heap.size 87 n (fun i => if i < k then .slice (some ⟨w.heap.size + 1 + i, 0, none⟩) n n else .slice none 0 0) ∧ (∀ i, i < k → wr.rowIs (w.heap.size + 1 + i) 4 n (fun _ => .bool false))) (fun i _ => n - (intOf i).toNat)
  case atStart => exact ⟨0, Nat.zero_le _, rfl, by simp, (Below.refl _ _).alloc (Nat.le_refl _) _, HR0.out.congr (fun i _ => by simp), fun i hi => by omega⟩
  case round =>
    obtain ⟨k, hk, rfl, hsz, hbel, hout, hrows⟩ := hrel
    by_cases hlt : k < n
    · have j1 : (0 : Int) ≤ (k : Int) := by omega
      have j2 : (k : Int) < (n : Int) := by omega
      have lg : w.heap.size < wr.heap.size := by omega
      have x0 : ∀ o, (wr.alloc o).cell? ⟨w.heap.size, k, none⟩ = some (.slice none 0 0) := fun o => (World.cell?_alloc_past _ _ _ lg).trans ((hout.cell hlt).trans (by simp))
      have f0 : ∀ o, (wr.alloc o).frozen? ⟨w.heap.size, k, none⟩ = false := fun o => (World.frozen?_alloc_past _ _ _ lg).trans (hout.frozen k)
      have HSZ := hide hsz
      have HOUT := hide hout
      have HROWS := hide hrows
      clear hsz hout hrows
      go_wp2
      go_roundw
      case rel =>
        have e1 : wr.heap.size = w.heap.size + 1 + k := HSZ.out
        refine ⟨k + 1, by omega, by go_num, by simp; omega, ?_, ?_, ?_⟩
        · first | exact (hbel.alloc (by omega) _).setCell (Nat.le_refl _) _ | exact (hbel.setCell (Nat.le_refl _) _).alloc (by simp; omega) _
        · have h1 := (HOUT.out.set k (.slice (some ⟨wr.heap.size, 0, none⟩) n n)).alloc (.cells (madeCells #[.bool false] n) 4)
          refine World.rowIs.congr ?_ (f := (fun j => if j = k then .slice (some ⟨wr.heap.size, 0, none⟩) n n else if j < k then .slice (some ⟨w.heap.size + 1 + j, 0, none⟩) n n else .slice none 0 0)) (fun i hi => ?_)
          · exact h1
          · by_cases e : i = k
            · subst e; rw [if_pos rfl, if_pos (by omega), e1]
            · rw [if_neg e]
              by_cases h2 : i < k
              · rw [if_pos h2, if_pos (by omega)]
              · rw [if_neg h2, if_neg (by omega)]
        · intro i hi
          by_cases e : i = k
          · subst e
            have h2 := World.rowIs_made (wr.setCell ⟨w.heap.size, i, none⟩ (.slice (some ⟨wr.heap.size, 0, none⟩) n n)) (.bool false) n 4
            simp only [World.size_setCell] at h2
            rw [← e1]
            exact h2
          · exact ((HROWS.out i (by omega)).setOther (a := ⟨w.heap.size, k, none⟩) (by show w.heap.size + 1 + i ≠ w.heap.size; omega) _).alloc _
      case measure => simp [intOf]; omega
    · have ek : k = n := by omega
      subst ek
      have HM : Hid (Mat wr w.heap.size k (fun i => w.heap.size + 1 + i) noM) := hide ⟨fun i hi => (hout.cell hi).trans (by simp [hi]), fun i hi => hrows i hi, fun i j _ _ e => by omega, fun i _ => by omega⟩
      have HSZ := hide hsz
      clear hsz hout hrows
      go_wp2
      go_ret
      exact ⟨rfl, HM.out, hbel, HSZ.out⟩

end Go.Proofs.YtbmhafagdchjfaaDoor

namespace Go.Proofs.YtbmhafagdchjfaaDoor
open Go.RowKit
attribute [local go_sem ↓] Go.wp_at_zero Go.wp_at_succ

theorem RowsOnly.below {w w' : World} {B n : Nat} {R : Nat → Nat} (h : RowsOnly w w' n R) (hR : ∀ i, i < n → B ≤ R i) : Below B w w' :=
  ⟨h.os, h.tape, h.output, by rw [h.size]; exact Nat.le_refl _, fun k hk => h.block k (fun i hi => by have := hR i hi; omega)⟩

set_option maxHeartbeats 2000000 in
set_option maxRecDepth 100000 in
theorem cycle_any (w : World) (q : Nat) (ds : List Dc) (ns : List Nd) (vd vn : Value) (h : ProgAt w q ds ns vd vn) (hwf : ProgWf ds ns) (hbd : ∀ n ∈ ns, n.kind = 2 → 0 ≤ n.decl) :
    Calls Tryd.prog 32 #[.pointer (some ⟨q, 0, none⟩)] w fun e w' => e = .returned (optVal (cycleF ds ns)) ∧ Below w.heap.size w w' := by
  have hdl := hwf.dl
  have hnl := hwf.nl
  have c0 := h.c0
  obtain ⟨av, cap, rfl, hsh⟩ := own_shape h.decls
  obtain ⟨an, capn, rfl, hshn⟩ := own_shape h.nodes
  have HSH := hide hsh
  have HSHN := hide hshn
  have HP := hide h
  have HWF := hide hwf
  have HBD := hide hbd
  clear h hsh hwf hshn hbd
  go_enter Tryd.func32, Tryd.ntmps32
  go_wp2_with fail
  refine (square_any w ds.length hdl).mono ?_
  rintro e w1 ⟨rfl, hM1, hb1, hs1⟩
  have c0' := (HP.out.below hb1).c0
  have HM1 := hide hM1
  have HS1 := hide hs1
  clear c0 hM1 hs1
  go_wp2
  go_loopw [22] (fun i wr => ∃ (k : Nat) (M : Mx), k ≤ ds.length ∧ i = .int .i64 k ∧ Below w.heap.size w wr ∧ Mat wr w.heap.size ds.length (fun i => w.heap.size + 1 + i) M ∧ markAll ns k (ds.drop k) M = markAll ns 0 ds noM) (fun i _ => ds.length - (intOf i).toNat)
  case atStart => exact ⟨0, noM, Nat.zero_le _, rfl, hb1, HM1.out, rfl⟩
  case round =>
    clear hb1 HM1 HS1 c0'
    obtain ⟨k, M, hk, rfl, hbel, hmat, hrec⟩ := hrel
    by_cases hlt : k < ds.length
    · obtain ⟨g, rfl, _, hg2⟩ := HSH.out (by omega)
      rw [drop_at ds k hlt] at hrec
      obtain ⟨a, ha⟩ : ∃ a, a = ds[k]'hlt := ⟨_, rfl⟩
      rw [← ha] at hrec
      obtain ⟨x0, x1, x2, x3, x4, x5, x6⟩ := dc_later HP.out.decls hbel hg2 hlt a ha
      have hseg := HWF.out.segs a (by rw [ha]; exact List.getElem_mem hlt)
      have j1 : (0 : Int) ≤ (k : Int) := by omega
      have j2 : (k : Int) < (ds.length : Int) := by omega
      simp only [markAll] at hrec
      have HREC := hide hrec
      have HMAT := hide hmat
      have c1 : ∀ o, (wr.alloc o).cell? ⟨q, 1, none⟩ = some (.slice an ns.length capn) := fun o => ((HP.out.below hbel).below ((Below.refl _ _).alloc (Nat.le_refl _) o)).c1
      clear ha hrec hmat
      rcases hseg with ⟨hs1, hs2, _⟩ | ⟨hs1, hs2⟩
      · rw [hs1] at x5 HREC
        rw [hs2] at x6 HREC
        rw [seg_nil] at HREC
        go_wp2_with fail
        go_quiet (fail)
        go_wp2
        go_loopw [37] (fun i wx => i = .int .i64 0 ∧ Below w.heap.size w wx ∧ Mat wx w.heap.size ds.length (fun i => w.heap.size + 1 + i) M) (fun _ _ => 0)
        case atStart => exact ⟨rfl, below_drewN (hbel.alloc hbel.size _) _, (HMAT.out.alloc _).drewN _⟩
        case round =>
          obtain ⟨rfl, hbx, hmx⟩ := hrel
          have HMX := hide hmx
          clear hmx
          go_wp2
          go_roundw
          case rel => exact ⟨k + 1, M, by omega, by go_num, hbx, HMX.out, HREC.out⟩
          case measure => simp [intOf]; omega
      · obtain ⟨gn, rfl, _, hgn⟩ := HSHN.out (by omega)
        have hcn : ns.length ≤ capn := by
          rcases HP.out.nodes.2 with ⟨h0, _⟩ | ⟨_, c', _, h1, _, _, h2, _⟩
          · cases h0
          · cases h1; exact h2
        have i1 : (0 : Int) ≤ (a.root : Int) := by omega
        have i2 : (a.root : Int) ≤ (a.fin : Int) := by omega
        have i3 : (a.fin : Int) ≤ (capn : Int) := by omega
        have i4 : (a.root : Int) < (capn : Int) := by omega
        go_wp2_with fail
        go_quiet (fail)
        go_wp2
        go_loopw [37] (fun i wx => ∃ (m : Nat) (M2 : Mx), m ≤ a.fin - a.root ∧ i = .int .i64 m ∧ Below w.heap.size w wx ∧ Mat wx w.heap.size ds.length (fun i => w.heap.size + 1 + i) M2 ∧ markSeg k ((seg ns a.root a.fin).drop m) M2 = markSeg k (seg ns a.root a.fin) M) (fun i _ => (a.fin - a.root) - (intOf i).toNat)
        case atStart => exact ⟨0, M, Nat.zero_le _, rfl, below_drewN (hbel.alloc hbel.size _) _, (HMAT.out.alloc _).drewN _, rfl⟩
        case round =>
          clear hbel x0 x1 x2 x3 x4 x5 x6 c1 HMAT
          obtain ⟨m, M2, hm, rfl, hbx, hmx, hrb⟩ := hrel
          by_cases hml : m < a.fin - a.root
          · have hrm : a.root + m < ns.length := by omega
            obtain ⟨b, hb⟩ : ∃ b, b = ns[a.root + m]'hrm := ⟨_, rfl⟩
            rw [seg_drop ns a.root a.fin m (by omega) hs2, ← hb] at hrb
            obtain ⟨y0, y1, y2, y3, y4, y5, y6, y7, y8, y9, y10⟩ := nd_seg HP.out.nodes hbx hgn a.root m hrm b hb
            have hbm : b ∈ ns := by rw [hb]; exact List.getElem_mem hrm
            have i5 : (0 : Int) ≤ (m : Int) := by omega
            have i6 : (m : Int) < ((a.fin - a.root : Nat) : Int) := by omega
            simp only [markSeg] at hrb
            have HRB := hide hrb
            have HMX := hide hmx
            clear hrb hb hmx
            by_cases hk2 : b.kind = 2
            · have q2 : ((b.kind : Int) == 2) = true := by rw [hk2]; rfl
              have hd1 := HBD.out b hbm hk2
              have hd2 := (HWF.out.decl b hbm hk2).2
              by_cases hdl0 : b.delayed = true
              · have HF : Hid (markSeg k ((seg ns a.root a.fin).drop (m + 1)) M2 = markSeg k (seg ns a.root a.fin) M) := hide (by rw [← HRB.out, if_neg (fun h => by rw [hdl0] at h; cases h.2)])
                clear hk2 hbm
                go_wp2
                go_roundw
                case rel => exact ⟨m + 1, M2, by omega, by go_num, hbx.alloc hbx.size _, HMX.out.alloc _, HF.out⟩
                case measure => simp [intOf]; omega
              · have hdl1 : b.delayed = false := by simpa using hdl0
                obtain ⟨d, hdd⟩ : ∃ d : Nat, b.decl = (d : Int) := ⟨b.decl.toNat, by omega⟩
                have HF : Hid (markSeg k ((seg ns a.root a.fin).drop (m + 1)) (upd M2 k d true) = markSeg k (seg ns a.root a.fin) M) := hide (by rw [← HRB.out, if_pos ⟨hk2, hdl1⟩, hdd]; rfl)
                have hdlt : d < ds.length := by omega
                rw [hdd] at y4
                have o1 : ∀ o, (wr.alloc o).cell? ⟨w.heap.size, k, none⟩ = some (.slice (some ⟨w.heap.size + 1 + k, 0, none⟩) ds.length ds.length) := fun o => (HMX.out.alloc o).outer k hlt
                have o2 : ∀ o, (wr.alloc o).cell? ⟨w.heap.size + 1 + k, d, none⟩ = some (.bool (M2 k d)) := fun o => (HMX.out.alloc o).cell hlt hdlt
                have o3 : ∀ o, (wr.alloc o).frozen? ⟨w.heap.size + 1 + k, d, none⟩ = false := fun o => (HMX.out.alloc o).froz hlt d
                have j5 : (0 : Int) ≤ (d : Int) := by omega
                have j6 : (d : Int) < (ds.length : Int) := by omega
                clear hk2 hbm hdl0 hd1 hd2 hdd
                go_wp2_with fail
                go_big_region
                go_wp2
                go_roundw
                case rel =>
                  refine ⟨m + 1, upd M2 k d true, by omega, by go_num, ?_, ?_, HF.out⟩
                  · exact ((hbx.alloc hbx.size _).setCell (by show w.heap.size ≤ w.heap.size + 1 + k; omega) _).drew
                  · exact ((HMX.out.alloc _).set hlt d true).drew
                case measure => simp [intOf]; omega
            · have q2 : ((b.kind : Int) == 2) = false := by rw [beq_eq_false_iff_ne]; omega
              have HF : Hid (markSeg k ((seg ns a.root a.fin).drop (m + 1)) M2 = markSeg k (seg ns a.root a.fin) M) := hide (by rw [← HRB.out, if_neg (fun h => hk2 h.1)])
              clear hk2
              go_wp2
              go_roundw
              case rel => exact ⟨m + 1, M2, by omega, by go_num, hbx.alloc hbx.size _, HMX.out.alloc _, HF.out⟩
              case measure => simp [intOf]; omega
          · have HF : Hid (markSeg k (seg ns a.root a.fin) M = M2) := hide (by rw [← hrb, List.drop_of_length_le (by rw [seg_len ns a.root a.fin hs2]; omega)]; rfl)
            have HMX := hide hmx
            clear hrb hmx
            go_wp2
            go_roundw
            case rel => exact ⟨k + 1, M2, by omega, by go_num, hbx, HMX.out, by rw [← HF.out]; exact HREC.out⟩
            case measure => simp [intOf]; omega
    · have HF : Hid (markAll ns 0 ds noM = M) := hide (by rw [← hrec, List.drop_of_length_le (by omega)]; rfl)
      have HMAT := hide hmat
      clear hrec hmat
      go_wp2_with fail
      refine (follow_any wr w.heap.size ds.length ds.length _ M HMAT.out hdl).mono ?_
      rintro e w2 ⟨rfl, hm2, hro2⟩
      have hb2 : Below w.heap.size w w2 := hbel.trans (hro2.below (fun i _ => by omega))
      have c0 := (HP.out.below hb2).c0
      have HM2 := hide hm2
      clear hm2 hro2 hbel HMAT
      have HC : Hid (cycleF ds ns = firstSelf (warsh M ds.length) 0 ds) := hide (by unfold cycleF; rw [HF.out])
      generalize warsh M ds.length = MW at *
      go_wp2
      go_loopw [65] (fun i wx => ∃ j : Nat, j ≤ ds.length ∧ i = .int .i64 j ∧ Below w.heap.size w wx ∧ Mat wx w.heap.size ds.length (fun i => w.heap.size + 1 + i) MW ∧ firstSelf MW j (ds.drop j) = firstSelf MW 0 ds) (fun i _ => ds.length - (intOf i).toNat)
      case atStart => exact ⟨0, Nat.zero_le _, rfl, hb2, HM2.out, rfl⟩
      case round =>
        clear hb2 HM2 c0 hlt hk
        obtain ⟨k, hk, rfl, hbx, hmx, hrb⟩ := hrel
        by_cases hlt : k < ds.length
        · obtain ⟨g, rfl, _, hg2⟩ := HSH.out (by omega)
          rw [drop_at ds k hlt] at hrb
          obtain ⟨a, ha⟩ : ∃ a, a = ds[k]'hlt := ⟨_, rfl⟩
          rw [← ha] at hrb
          obtain ⟨x0, x1, x2, x3, x4, x5, x6⟩ := dc_later HP.out.decls hbx hg2 hlt a ha
          have j1 : (0 : Int) ≤ (k : Int) := by omega
          have j2 : (k : Int) < (ds.length : Int) := by omega
          simp only [firstSelf] at hrb
          have o1 : ∀ o, (wr.alloc o).cell? ⟨w.heap.size, k, none⟩ = some (.slice (some ⟨w.heap.size + 1 + k, 0, none⟩) ds.length ds.length) := fun o => (hmx.alloc o).outer k hlt
          have o2 : ∀ o, (wr.alloc o).cell? ⟨w.heap.size + 1 + k, k, none⟩ = some (.bool (MW k k)) := fun o => (hmx.alloc o).cell hlt hlt
          have HRB := hide hrb
          have HMX := hide hmx
          clear ha hrb hmx
          by_cases hs : MW k k = true
          · have HF : Hid (cycleF ds ns = some a.pos) := hide (by rw [HC.out, ← HRB.out, if_pos hs])
            go_wp2
            go_ret2
            exact ⟨opt_some HF.out, hbx.alloc hbx.size _⟩
          · have hs' : MW k k = false := by simpa using hs
            have HF : Hid (firstSelf MW (k + 1) (ds.drop (k + 1)) = firstSelf MW 0 ds) := hide (by rw [← HRB.out, if_neg hs])
            clear hs
            go_wp2
            go_roundw
            case rel => exact ⟨k + 1, by omega, by go_num, hbx.alloc hbx.size _, HMX.out.alloc _, HF.out⟩
            case measure => simp [intOf]; omega
        · have HF : Hid (cycleF ds ns = none) := hide (by rw [HC.out, ← hrb, List.drop_of_length_le (by omega)]; rfl)
          clear hrb
          go_wp2
          go_ret2
          exact ⟨opt_none HF.out, hbx⟩

end Go.Proofs.YtbmhafagdchjfaaDoor
