import Derived.Test.Ytmndgoapkmhglabo21OrdA
namespace Go.Proofs.Ytmndgoapkmhglab
open Go.RowKit
attribute [local go_sem ↓] Go.wp_at_zero Go.wp_at_succ
set_option maxHeartbeats 2000000 in
set_option maxRecDepth 100000 in
theorem hangs_any (w : World) (q : Nat) (ds : List Dc) (ns : List Nd) (vd vn : Value) (h : ProgAt w q ds ns vd vn) (hwf : ProgWf ds ns) (hbd : ∀ n ∈ ns, n.kind = 2 → 0 ≤ n.decl) :
    Calls Try.prog 97 #[.pointer (some ⟨q, 0, none⟩)] w fun e w' => e = .returned (.slice (some ⟨w.heap.size, 0, none⟩) ds.length ds.length) ∧ (∃ R, Mat w' w.heap.size ds.length R (markAll ds ns 0 ds noM) ∧ ∀ i, i < ds.length → w.heap.size < R i) ∧ Below w.heap.size w w' ∧ w.heap.size < w'.heap.size := by
  have hdl := hwf.dl
  have hnl := hwf.nl
  have c0 := h.c0
  obtain ⟨av, cap, rfl, hsh⟩ := own_shape h.decls
  obtain ⟨an, capn, rfl, hshn⟩ := own_shape h.nodes
  have hm1 := run_make_row' (P := Try.prog) 79 113 (.slice none 0 0) 24 Try.underlying79 Try.infoBools rfl .i64 .i64 ds.length (by omega) (by omega)
  have hm2 := run_make_row' (P := Try.prog) 113 4 (.bool false) 1 Try.underlying113 Try.infoBool rfl .i64 .i64 ds.length (by omega) (by omega)
  have HR0 := hide (World.rowIs_made w (.slice none 0 0) ds.length 113)
  have c0' : ∀ o, (w.alloc o).cell? ⟨q, 0, none⟩ = some (.slice av ds.length cap) := fun o => (h.below ((Below.refl _ _).alloc (Nat.le_refl _) o)).c0
  have HSH := hide hsh
  have HSHN := hide hshn
  have HP := hide h
  have HWF := hide hwf
  have HBD := hide hbd
  clear h hsh hwf hshn hbd
  go_enter Try.func97, Try.ntmps97
  go_wp2
  go_loopw [19] (fun i wr => ∃ (k : Nat) (R : Nat → Nat) (M : Mx), k ≤ ds.length ∧ i = .int .i64 k ∧ Below w.heap.size w wr ∧ HMat wr w.heap.size ds.length k R M ∧ (∀ a b, k ≤ a → M a b = false) ∧ markAll ds ns k (ds.drop k) M = markAll ds ns 0 ds noM) (fun i _ => ds.length - (intOf i).toNat)
  case atStart => exact ⟨0, fun _ => 0, noM, Nat.zero_le _, rfl, (Below.refl _ _).alloc (Nat.le_refl _) _, ⟨HR0.out.congr (fun i _ => by simp), fun i hi => by omega, fun i j hi => by omega, fun i hi => by omega, Nat.zero_le _⟩, fun _ _ _ => rfl, rfl⟩
  case round =>
    clear HR0 c0' c0
    obtain ⟨k, R, M, hk, rfl, hbel, hmat, hz, hrec⟩ := hrel
    by_cases hlt : k < ds.length
    · obtain ⟨g, rfl, _, hg2⟩ := HSH.out (by omega)
      rw [drop_at ds k hlt] at hrec
      obtain ⟨a, ha⟩ : ∃ a, a = ds[k]'hlt := ⟨_, rfl⟩
      rw [← ha] at hrec
      obtain ⟨x0, x1, x2, x3, x4, x5, x6⟩ := dc_later HP.out.decls hbel hg2 hlt a ha
      have hseg := HWF.out.segs a (by rw [ha]; exact List.getElem_mem hlt)
      have j1 : (0 : Int) ≤ (k : Int) := by omega
      have j2 : (k : Int) < (ds.length : Int) := by omega
      simp only [markAll] at hrec
      have HREC := hide hrec
      have hgl := hmat.lt
      have o0 : ∀ o, (wr.alloc o).cell? ⟨w.heap.size, k, none⟩ = some (.slice none 0 0) := fun o => (World.cell?_alloc_past _ _ _ hgl).trans ((hmat.outer.cell hlt).trans (by simp))
      have o0' : ∀ o o', ((wr.alloc o).alloc o').cell? ⟨w.heap.size, k, none⟩ = some (.slice none 0 0) := fun o o' => (World.cell?_alloc_past _ _ _ (by simp; omega)).trans (o0 o)
      have f0 : ∀ o, (wr.alloc o).frozen? ⟨w.heap.size, k, none⟩ = false := fun o => (World.frozen?_alloc_past _ _ _ hgl).trans (hmat.outer.frozen k)
      have f0' : ∀ o o', ((wr.alloc o).alloc o').frozen? ⟨w.heap.size, k, none⟩ = false := fun o o' => (World.frozen?_alloc_past _ _ _ (by simp; omega)).trans (f0 o)
      have HMAT := hide hmat
      have HZ := hide hz
      have p0 : ∀ o, (wr.alloc o).cell? ⟨q, 0, none⟩ = some (.slice (some ⟨g, 0, none⟩) ds.length cap) := fun o => ((HP.out.below hbel).below ((Below.refl _ _).alloc (Nat.le_refl _) o)).c0
      have hb3 : ∀ v o o', Below w.heap.size w (((wr.setCell ⟨w.heap.size, k, none⟩ v).alloc o).alloc o') := fun v o o' => ((hbel.setCell (Nat.le_refl _) _).alloc (by simp; omega) _).alloc (by simp; omega) _
      have c1 : ∀ v o o', (((wr.setCell ⟨w.heap.size, k, none⟩ v).alloc o).alloc o').cell? ⟨q, 1, none⟩ = some (.slice an ns.length capn) := fun v o o' => (HP.out.below (hb3 v o o')).c1
      have z5 : ∀ v o', (((wr.setCell ⟨w.heap.size, k, none⟩ v).alloc (.cells #[.int .i64 (a.kind : Int), .int .i64 (a.number : Int), .string a.name, .int .i64 (a.pos : Int), .int .i64 (a.place : Int), .int .i64 (a.root : Int), .int .i64 (a.fin : Int)] 126)).alloc o').cell? ⟨wr.heap.size, 5, none⟩ = some (.int .i64 (a.root : Int)) := fun v o' => by
        rw [World.cell?_alloc_past _ _ _ (by simp)]
        exact (World.cell?_alloc_at _ _ _ _ (by simp)).trans rfl
      have z6 : ∀ v o', (((wr.setCell ⟨w.heap.size, k, none⟩ v).alloc (.cells #[.int .i64 (a.kind : Int), .int .i64 (a.number : Int), .string a.name, .int .i64 (a.pos : Int), .int .i64 (a.place : Int), .int .i64 (a.root : Int), .int .i64 (a.fin : Int)] 126)).alloc o').cell? ⟨wr.heap.size, 6, none⟩ = some (.int .i64 (a.fin : Int)) := fun v o' => by
        rw [World.cell?_alloc_past _ _ _ (by simp)]
        exact (World.cell?_alloc_at _ _ _ _ (by simp)).trans rfl
      have HPUSH : Hid (∀ dO, HMat (((wr.setCell ⟨w.heap.size, k, none⟩ (.slice (some ⟨wr.heap.size + 1, 0, none⟩) ds.length ds.length)).alloc dO).alloc (.cells (madeCells #[.bool false] ds.length) 4)) w.heap.size ds.length (k + 1) (fun i => if i = k then wr.heap.size + 1 else R i) M) := hide (fun dO => by
        refine HMAT.out.push hlt (by omega) ?_ (fun b hb hne => ?_) ?_ (fun j => HZ.out k j (Nat.le_refl _))
        · refine World.rowIs.congr (((HMAT.out.outer.set k (.slice (some ⟨wr.heap.size + 1, 0, none⟩) ds.length ds.length)).alloc _).alloc _) (fun i hi => rfl)
        · rw [Below.heap_alloc _ _ _ (by simp; omega), Below.heap_alloc _ _ _ (by simp; omega)]
          exact heap_setCell_other wr ⟨w.heap.size, k, none⟩ b _ hne
        · have h2 := World.rowIs_made ((wr.setCell ⟨w.heap.size, k, none⟩ (.slice (some ⟨wr.heap.size + 1, 0, none⟩) ds.length ds.length)).alloc dO) (.bool false) ds.length 4
          simpa using h2)
      have HB3 := hide hb3
      obtain ⟨rr, hrr⟩ : ∃ rr, rr = wr.heap.size + 1 := ⟨_, rfl⟩
      have hrg : w.heap.size ≤ rr := by omega
      have HRR := hide hrr
      clear hrr
      clear ha hrec hmat hz hb3
      rcases hseg with ⟨hs1, hs2, _⟩ | ⟨hs1, hs2⟩
      · rw [hs1] at HREC z5
        rw [hs2] at HREC z6
        rw [seg_nil] at HREC
        go_wp2_with fail
        go_quiet (fail)
        go_wp2
        go_loopw [43] (fun i wx => i = .int .i64 0 ∧ Below w.heap.size w wx ∧ HMat wx w.heap.size ds.length (k + 1) (fun i => if i = k then rr else R i) M) (fun _ _ => 0)
        case atStart => exact ⟨rfl, below_drewN (HB3.out _ _ _) _, by rw [HRR.out]; exact (HPUSH.out _).drewN _⟩
        case round =>
          obtain ⟨rfl, hbx, hmx⟩ := hrel
          have HMX := hide hmx
          clear hmx
          go_wp2
          go_roundw
          case rel => exact ⟨k + 1, _, M, by omega, by go_num, hbx, HMX.out, fun a b h => HZ.out a b (by omega), HREC.out⟩
          case measure => simp [intOf]; omega
      · obtain ⟨gn, rfl, _, hgn⟩ := HSHN.out (by omega)
        have hcn : ns.length ≤ capn := by
          rcases HP.out.nodes.2 with ⟨h0, _⟩ | ⟨_, c', _, h1, _, _, h2, _⟩
          · cases h0
          · cases h1; exact h2
        have i1 : (0 : Int) ≤ (a.root : Int) := by omega
        have i2 : (a.root : Int) ≤ (a.fin : Int) := by omega
        have i3 : (a.fin : Int) ≤ (capn : Int) := by omega
        have i4 : (a.root : Int) < (capn : Int) := by omega
        go_wp2_with fail
        go_quiet (fail)
        go_wp2
        go_loopw [43] (fun i wx => ∃ (m : Nat) (M2 : Mx), m ≤ a.fin - a.root ∧ i = .int .i64 m ∧ Below w.heap.size w wx ∧ HMat wx w.heap.size ds.length (k + 1) (fun i => if i = k then rr else R i) M2 ∧ (∀ a b, k + 1 ≤ a → M2 a b = false) ∧ markSeg ds k ((seg ns a.root a.fin).drop m) M2 = markSeg ds k (seg ns a.root a.fin) M) (fun i _ => (a.fin - a.root) - (intOf i).toNat)
        case atStart => exact ⟨0, M, Nat.zero_le _, rfl, below_drewN (HB3.out _ _ _) _, by rw [HRR.out]; exact (HPUSH.out _).drewN _, fun a b h => HZ.out a b (by omega), rfl⟩
        case round =>
          clear hbel x0 x1 x2 x3 x4 x5 x6 c1 HMAT z5 z6 o0 o0' f0 f0' p0 HPUSH HB3
          obtain ⟨m, M2, hm, rfl, hbx, hmx, hzx, hrb⟩ := hrel
          by_cases hml : m < a.fin - a.root
          · have hrm : a.root + m < ns.length := by omega
            obtain ⟨b, hb⟩ : ∃ b, b = ns[a.root + m]'hrm := ⟨_, rfl⟩
            rw [seg_drop ns a.root a.fin m (by omega) hs2, ← hb] at hrb
            obtain ⟨y0, y1, y2, y3, y4, y5, y6, y7, y8, y9, y10⟩ := nd_seg HP.out.nodes hbx hgn a.root m hrm b hb
            have hbm : b ∈ ns := by rw [hb]; exact List.getElem_mem hrm
            have i5 : (0 : Int) ≤ (m : Int) := by omega
            have i6 : (m : Int) < ((a.fin - a.root : Nat) : Int) := by omega
            simp only [markSeg] at hrb
            have HRB := hide hrb
            have HMX := hide hmx
            have HZX := hide hzx
            clear hrb hb hmx hzx
            by_cases hk2 : b.kind = 2
            · have q2 : ((b.kind : Int) == 2) = true := by rw [hk2]; rfl
              have hd1 := HBD.out b hbm hk2
              have hd2 := (HWF.out.decl b hbm hk2).2
              by_cases hdl0 : b.delayed = true
              · have HF : Hid (markSeg ds k ((seg ns a.root a.fin).drop (m + 1)) M2 = markSeg ds k (seg ns a.root a.fin) M) := hide (by rw [← HRB.out, if_neg (fun h => by rw [hdl0] at h; cases h.2.1)])
                clear hk2 hbm
                go_wp2_with fail
                go_big_region
                go_wp2
                go_roundw
                case rel => exact ⟨m + 1, M2, by omega, by go_num, (hbx.alloc hbx.size _).drew, (HMX.out.alloc _).drew, HZX.out, HF.out⟩
                case measure => simp [intOf]; omega
              · have hdl1 : b.delayed = false := by simpa using hdl0
                obtain ⟨d, hdd⟩ : ∃ d : Nat, b.decl = (d : Int) := ⟨b.decl.toNat, by omega⟩
                have hdlt : d < ds.length := by omega
                obtain ⟨e, he⟩ : ∃ e, e = ds[d]'hdlt := ⟨_, rfl⟩
                have hke : kindAt ds b.decl = e.kind := by rw [hdd, kindAt_eq hdlt, he]
                have v0 : ∀ o, (wr.alloc o).cell? ⟨g, d * 7, none⟩ = some (.int .i64 (e.kind : Int)) := fun o => (dc_later HP.out.decls (hbx.alloc hbx.size o) hg2 hdlt e he).1
                have p0 : ∀ o, (wr.alloc o).cell? ⟨q, 0, none⟩ = some (.slice (some ⟨g, 0, none⟩) ds.length cap) := fun o => (HP.out.below (hbx.alloc hbx.size o)).c0
                rw [hdd] at y4
                have j5 : (0 : Int) ≤ (d : Int) := by omega
                have j6 : (d : Int) < (ds.length : Int) := by omega
                by_cases hk0 : e.kind = 0
                · have q0 : ((e.kind : Int) != 0) = false := by rw [hk0]; rfl
                  have HF : Hid (markSeg ds k ((seg ns a.root a.fin).drop (m + 1)) M2 = markSeg ds k (seg ns a.root a.fin) M) := hide (by rw [← HRB.out, if_neg (fun h => h.2.2 (hke.trans hk0))])
                  clear hk2 hbm hdl0 hd1 hd2 hdd hke he hk0
                  go_wp2_with fail
                  go_big_region
                  go_wp2
                  go_roundw
                  case rel => exact ⟨m + 1, M2, by omega, by go_num, (hbx.alloc hbx.size _).drew, (HMX.out.alloc _).drew, HZX.out, HF.out⟩
                  case measure => simp [intOf]; omega
                · have q0 : ((e.kind : Int) != 0) = true := by rw [bne_iff_ne]; omega
                  have HF : Hid (markSeg ds k ((seg ns a.root a.fin).drop (m + 1)) (upd M2 k d true) = markSeg ds k (seg ns a.root a.fin) M) := hide (by rw [← HRB.out, if_pos ⟨hk2, hdl1, by rw [hke]; exact hk0⟩, hdd]; rfl)
                  have o1 : ∀ o, (wr.alloc o).cell? ⟨w.heap.size, k, none⟩ = some (.slice (some ⟨rr, 0, none⟩) ds.length ds.length) := fun o => ((HMX.out.alloc o).slice (i := k) (by omega)).trans (by simp)
                  have o2 : ∀ o, (wr.alloc o).cell? ⟨rr, d, none⟩ = some (.bool (M2 k d)) := fun o => by
                    have := ((HMX.out.alloc o).rows k (by omega)).cell hdlt
                    simpa using this
                  have o3 : ∀ o, (wr.alloc o).frozen? ⟨rr, d, none⟩ = false := fun o => by
                    have := ((HMX.out.alloc o).rows k (by omega)).frozen d
                    simpa using this
                  clear hk2 hbm hdl0 hd1 hd2 hdd hke he hk0
                  go_wp2_with fail
                  go_big_region
                  go_wp2_with fail
                  go_big_region
                  go_wp2
                  go_roundw
                  case rel =>
                    refine ⟨m + 1, upd M2 k d true, by omega, by go_num, ?_, ?_, fun a b h => ?_, HF.out⟩
                    · first | exact ((hbx.alloc hbx.size _).drew.setCell (by show w.heap.size ≤ rr; exact hrg) _).drew | exact ((hbx.alloc hbx.size _).setCell (by show w.heap.size ≤ rr; exact hrg) _).drew.drew
                    · have h5 : ∀ o, HMat ((wr.alloc o).drew.setCell ⟨rr, d, none⟩ (.bool true)).drew w.heap.size ds.length (k + 1) (fun i => if i = k then rr else R i) (upd M2 k d true) := fun o => by
                        have h6 := (((HMX.out.alloc o).drew.set (a := k) (by omega) d true)).drew
                        simp only [if_true] at h6
                        exact h6
                      exact h5 _
                    · unfold upd
                      rw [if_neg (by omega)]
                      exact HZX.out a b h
                  case measure => simp [intOf]; omega
            · have q2 : ((b.kind : Int) == 2) = false := by rw [beq_eq_false_iff_ne]; omega
              have HF : Hid (markSeg ds k ((seg ns a.root a.fin).drop (m + 1)) M2 = markSeg ds k (seg ns a.root a.fin) M) := hide (by rw [← HRB.out, if_neg (fun h => hk2 h.1)])
              clear hk2
              go_wp2_with fail
              go_big_region
              go_wp2
              go_roundw
              case rel => exact ⟨m + 1, M2, by omega, by go_num, (hbx.alloc hbx.size _).drew, (HMX.out.alloc _).drew, HZX.out, HF.out⟩
              case measure => simp [intOf]; omega
          · have HF : Hid (markSeg ds k (seg ns a.root a.fin) M = M2) := hide (by rw [← hrb, List.drop_of_length_le (by rw [seg_len ns a.root a.fin hs2]; omega)]; rfl)
            have HMX := hide hmx
            have HZX := hide hzx
            clear hrb hmx hzx
            go_wp2
            go_roundw
            case rel => exact ⟨k + 1, _, M2, by omega, by go_num, hbx, HMX.out, HZX.out, by rw [← HF.out]; exact HREC.out⟩
            case measure => simp [intOf]; omega
    · have ek : k = ds.length := by omega
      subst ek
      have HF : Hid (markAll ds ns 0 ds noM = M) := hide (by rw [← hrec, List.drop_of_length_le (by omega)]; rfl)
      have HMAT := hide hmat
      clear hrec hmat hz
      go_wp2
      go_ret
      exact ⟨rfl, ⟨R, by rw [HF.out]; exact HMAT.out.mat, HMAT.out.gt⟩, hbel, HMAT.out.lt⟩
end Go.Proofs.Ytmndgoapkmhglab
