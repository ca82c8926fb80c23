import Derived.Deep.OwnRows
import Derived.BigRegion
import Derived.Deep.RegionWith
import Derived.Test.Ytmndgoapkmhglabo19JudC
namespace Go.Proofs.Ytmndgoapkmhglab
open Go.RowKit
attribute [local go_sem ↓] Go.wp_at_zero Go.wp_at_succ
theorem Try.infoBool : (Try.prog.info? 4).map (fun i => (i.zero, i.size, i.bytes)) = some (some (.bool false), 1, 1) := by kernel_rfl
def BRow (w : World) (T : Nat) (tr : List Bool) : Prop := w.rowIs T 4 tr.length (fun i => .bool (tr.getD i false))
theorem BRow.set {w : World} {T : Nat} {tr : List Bool} (h : BRow w T tr) (i : Nat) (v : Bool) : BRow (w.setCell ⟨T, i, none⟩ (.bool v)) T (tr.set i v) := by
  have h1 := World.rowIs.set h i (.bool v)
  unfold BRow
  rw [List.length_set]
  refine h1.congr (fun j hj => ?_)
  by_cases e : j = i
  · subst e; simp [hj]
  · have : i ≠ j := fun h => e h.symm
    simp [List.getD_eq_getElem?_getD, e, this]
theorem BRow.cell {w : World} {T : Nat} {tr : List Bool} (h : BRow w T tr) {i : Nat} (hi : i < tr.length) : w.cell? ⟨T, i, none⟩ = some (.bool (tr.getD i false)) := World.rowIs.cell h hi
theorem BRow.froz {w : World} {T : Nat} {tr : List Bool} (h : BRow w T tr) (i : Nat) : w.frozen? ⟨T, i, none⟩ = false := World.rowIs.frozen h i
theorem BRow.lt {w : World} {T : Nat} {tr : List Bool} (h : BRow w T tr) : T < w.heap.size := World.rowIs.lt h
theorem BRow.alloc {w : World} {T : Nat} {tr : List Bool} (h : BRow w T tr) (o : Obj) : BRow (w.alloc o) T tr := World.rowIs.alloc h o
theorem BRow.drew {w : World} {T : Nat} {tr : List Bool} (h : BRow w T tr) : BRow w.drew T tr := h
theorem BRow.below {w w' : World} {T : Nat} {tr : List Bool} (h : BRow w T tr) (hb : Below w.heap.size w w') : BRow w' T tr := World.rowIs.of_block h (hb.block T h.lt)
theorem row7 {w : World} {N : Nat} {a0 a1 a2 a3 a4 a5 a6 : Value} {t : TypeId} (h : w.heap[N]? = some (.cells #[a0, a1, a2, a3, a4, a5, a6] t)) :
    w.cell? ⟨N, 0, none⟩ = some a0 ∧ w.cell? ⟨N, 1, none⟩ = some a1 ∧ w.cell? ⟨N, 2, none⟩ = some a2 ∧ w.cell? ⟨N, 3, none⟩ = some a3 ∧ w.cell? ⟨N, 4, none⟩ = some a4 ∧ w.cell? ⟨N, 5, none⟩ = some a5 ∧ w.cell? ⟨N, 6, none⟩ = some a6 := by
  refine ⟨?_, ?_, ?_, ?_, ?_, ?_, ?_⟩ <;> (rw [cell_of_row w N _ _ _ _ h]; rfl)
set_option maxHeartbeats 3000000 in
set_option maxRecDepth 100000 in
theorem badType_any (w : World) (q : Nat) (ds : List Dc) (ns : List Nd) (vd vn : Value) (h : ProgAt w q ds ns vd vn) (hwf : ProgWf ds ns) (hbd : ∀ n ∈ ns, n.kind = 2 → 0 ≤ n.decl) :
    Calls Try.prog 84 #[.pointer (some ⟨q, 0, none⟩)] w fun e w' => e = .returned (optVal (badTypeF ds 0 ns (roots ds (List.replicate ns.length false)))) ∧ Below w.heap.size w w' := by
  have hdl := hwf.dl
  have hnl := hwf.nl
  have c0 : ∀ o, (w.alloc o).cell? ⟨q, 0, none⟩ = some vd := fun o => (World.cell?_alloc_past _ _ _ h.lt).trans h.c0
  have c1 := h.c1
  obtain ⟨av, cap, rfl, hsh⟩ := own_shape h.decls
  obtain ⟨an, capn, rfl, hshn⟩ := own_shape h.nodes
  have HSH := hide hsh
  have HSHN := hide hshn
  have HP := hide h
  have HWF := hide hwf
  have HBD := hide hbd
  have hmk := run_make_row' (P := Try.prog) 113 4 (.bool false) 1 Try.underlying113 Try.infoBool rfl .i64 .i64 ns.length (by omega) (by omega)
  have hrow0 : BRow (w.alloc (.cells (madeCells #[.bool false] ns.length) 4)) w.heap.size (List.replicate ns.length false) := by
    have := World.rowIs_made w (.bool false) ns.length 4
    unfold BRow
    rw [List.length_replicate]
    refine this.congr (fun i hi => ?_)
    simp [List.getD_eq_getElem?_getD, hi]
  have HROW0 := hide hrow0
  clear h hsh hwf hshn hrow0 hbd
  go_enter Try.func84, Try.ntmps84
  go_wp2
  clear hmk c0 c1
  go_loopw [20] (fun i wr => ∃ (k : Nat) (tr : List Bool), k ≤ ds.length ∧ i = .int .i64 k ∧ Below w.heap.size w wr ∧ BRow wr w.heap.size tr ∧ tr.length = ns.length ∧ roots (ds.drop k) tr = roots ds (List.replicate ns.length false)) (fun i _ => ds.length - (intOf i).toNat)
  case atStart => exact ⟨0, _, Nat.zero_le _, rfl, (Below.refl _ _).alloc (Nat.le_refl _) _, HROW0.out, by simp, rfl⟩
  case round =>
    obtain ⟨k, tr, hk, rfl, hbel, hrow, htl, hrec⟩ := hrel
    by_cases hlt : k < ds.length
    · obtain ⟨g, rfl, _, hg2⟩ := HSH.out (by omega)
      rw [drop_at ds k hlt] at hrec
      obtain ⟨a, ha⟩ : ∃ a, a = ds[k]'hlt := ⟨_, rfl⟩
      rw [← ha] at hrec
      obtain ⟨x0, x1, x2, x3, x4, x5, x6⟩ := dc_later HP.out.decls hbel hg2 hlt a ha
      have hseg := HWF.out.segs a (by rw [ha]; exact List.getElem_mem hlt)
      have j1 : (0 : Int) ≤ (k : Int) := by omega
      have j2 : (k : Int) < (ds.length : Int) := by omega
      simp only [roots] at hrec
      have HREC := hide hrec
      have HROW := hide hrow
      have HTL := hide htl
      clear ha hrec hrow htl
      by_cases hkd : a.kind = 2
      · have q0 : ((a.kind : Int) == 2) = true := by rw [hkd]; rfl
        have hr : a.root < ns.length := by
          rcases hseg with ⟨_, _, h0⟩ | ⟨h1, h2⟩
          · omega
          · omega
        have i1 : (0 : Int) ≤ (a.root : Int) := by omega
        have i2 : (a.root : Int) < (ns.length : Int) := by omega
        have yc : ∀ o, (wr.alloc o).cell? ⟨w.heap.size, a.root, none⟩ = some (.bool (tr.getD a.root false)) := fun o => (HROW.out.alloc o).cell (by rw [HTL.out]; exact hr)
        have yf : ∀ o, (wr.alloc o).frozen? ⟨w.heap.size, a.root, none⟩ = false := fun o => (HROW.out.alloc o).froz _
        have HKD := hide hkd
        clear hkd hseg
        go_wp2
        go_roundw
        case rel =>
          refine ⟨k + 1, tr.set a.root true, by omega, by go_num, ?_, ?_, by rw [List.length_set]; exact HTL.out, by rw [← HREC.out, if_pos HKD.out]⟩
          · first | exact (hbel.alloc hbel.size _).setCell (Nat.le_refl _) _ | exact (hbel.setCell (Nat.le_refl _) _).alloc (by have := hbel.size; simp; omega) _
          · first | exact (HROW.out.alloc _).set _ _ | exact (HROW.out.set _ _).alloc _
        case measure => simp [intOf]; omega
      · have q0 : ((a.kind : Int) == 2) = false := by rw [beq_eq_false_iff_ne]; omega
        have HKD := hide hkd
        clear hkd hseg
        go_wp2
        go_roundw
        case rel => exact ⟨k + 1, tr, by omega, by go_num, hbel.alloc hbel.size _, HROW.out.alloc _, HTL.out, by rw [← HREC.out, if_neg HKD.out]⟩
        case measure => simp [intOf]; omega
    · have HR : Hid (roots ds (List.replicate ns.length false) = tr) := hide (by rw [← hrec, List.drop_of_length_le (by omega)]; rfl)
      have HROW := hide hrow
      have HTL := hide htl
      have c1 := (HP.out.below hbel).c1
      clear hrec hrow htl
      go_wp2
      clear c1
      go_loopw [37] (fun i wx => ∃ (k : Nat) (tr2 : List Bool), k ≤ ns.length ∧ i = .int .i64 k ∧ Below w.heap.size w wx ∧ BRow wx w.heap.size tr2 ∧ tr2.length = ns.length ∧ badTypeF ds k (ns.drop k) tr2 = badTypeF ds 0 ns (roots ds (List.replicate ns.length false))) (fun i _ => ns.length - (intOf i).toNat)
      case atStart => exact ⟨0, tr, Nat.zero_le _, rfl, hbel, HROW.out, HTL.out, by rw [HR.out]; rfl⟩
      case round =>
        clear hbel HROW HTL HR hlt hk
        obtain ⟨k, tr2, hk, rfl, hbx, hrow, htl, hrec⟩ := hrel
        by_cases hlt : k < ns.length
        · obtain ⟨gn, rfl, _, hgn⟩ := HSHN.out (by omega)
          rw [drop_at ns k hlt] at hrec
          obtain ⟨n, hn⟩ : ∃ n, n = ns[k]'hlt := ⟨_, rfl⟩
          rw [← hn] at hrec
          have hnm : n ∈ ns := by rw [hn]; exact List.getElem_mem hlt
          obtain ⟨y0, y1, y2, y3, y4, y5, y6, y7, y8, y9, y10⟩ := nd_later HP.out.nodes hbx hgn hlt n hn
          have hk6 := HWF.out.kind n hnm
          have hpt := HWF.out.parts n hnm
          have hlat := HWF.out.later k hlt
          rw [← hn] at hlat
          have hdc : n.kind = 2 → 0 ≤ n.decl ∧ n.decl < (ds.length : Int) := fun h2 => ⟨HBD.out n hnm h2, (HWF.out.decl n hnm h2).2⟩
          obtain ⟨t, ht⟩ : ∃ t, t = tr2.getD k false := ⟨_, rfl⟩
          have yt : wr.cell? ⟨w.heap.size, k, none⟩ = some (.bool t) := by rw [ht]; exact hrow.cell (by omega)
          have ltT := hrow.lt
          have hPA : ProgAt (wr.alloc (.cells #[.int .i64 (n.kind : Int), .int .i64 (n.pos : Int), .int .i64 (n.value : Int), .string n.name, .int .i64 n.decl, .int .i64 (n.op : Int), .int .i64 (n.a : Int), .int .i64 (n.b : Int), .int .i64 (n.c : Int), .bool n.delayed, .bool n.behind] 171)).drew q ds ns _ _ := (HP.out.below hbx).below (((Below.refl _ _).alloc (Nat.le_refl _) _).drew)
          simp only [badTypeF] at hrec
          rw [← ht] at hrec
          have j1 : (0 : Int) ≤ (k : Int) := by omega
          have j2 : (k : Int) < (ns.length : Int) := by omega
          have HREC := hide hrec
          have HROW := hide hrow
          have HTL := hide htl
          have HLAT := hide hlat
          have HPT := hide hpt
          have HPA := hide hPA
          have HDC := hide hdc
          have ha1 : (wr.alloc (.cells #[.int .i64 (n.kind : Int), .int .i64 (n.pos : Int), .int .i64 (n.value : Int), .string n.name, .int .i64 n.decl, .int .i64 (n.op : Int), .int .i64 (n.a : Int), .int .i64 (n.b : Int), .int .i64 (n.c : Int), .bool n.delayed, .bool n.behind] 171)).cell? ⟨w.heap.size, k, none⟩ = some (.bool t) := (World.cell?_alloc_past _ _ _ ltT).trans yt
          clear hn hrec hrow htl ht hlat hpt hPA hdc hnm
          have z0 : (wr.alloc (.cells #[.int .i64 (n.kind : Int), .int .i64 (n.pos : Int), .int .i64 (n.value : Int), .string n.name, .int .i64 n.decl, .int .i64 (n.op : Int), .int .i64 (n.a : Int), .int .i64 (n.b : Int), .int .i64 (n.c : Int), .bool n.delayed, .bool n.behind] 171)).cell? ⟨wr.heap.size, 0, none⟩ = some (.int .i64 (n.kind : Int)) := (World.cell?_alloc_at _ _ _ _ rfl).trans rfl
          have z1 : (wr.alloc (.cells #[.int .i64 (n.kind : Int), .int .i64 (n.pos : Int), .int .i64 (n.value : Int), .string n.name, .int .i64 n.decl, .int .i64 (n.op : Int), .int .i64 (n.a : Int), .int .i64 (n.b : Int), .int .i64 (n.c : Int), .bool n.delayed, .bool n.behind] 171)).cell? ⟨wr.heap.size, 1, none⟩ = some (.int .i64 (n.pos : Int)) := (World.cell?_alloc_at _ _ _ _ rfl).trans rfl
          have z2 : (wr.alloc (.cells #[.int .i64 (n.kind : Int), .int .i64 (n.pos : Int), .int .i64 (n.value : Int), .string n.name, .int .i64 n.decl, .int .i64 (n.op : Int), .int .i64 (n.a : Int), .int .i64 (n.b : Int), .int .i64 (n.c : Int), .bool n.delayed, .bool n.behind] 171)).cell? ⟨wr.heap.size, 2, none⟩ = some (.int .i64 (n.value : Int)) := (World.cell?_alloc_at _ _ _ _ rfl).trans rfl
          have z3 : (wr.alloc (.cells #[.int .i64 (n.kind : Int), .int .i64 (n.pos : Int), .int .i64 (n.value : Int), .string n.name, .int .i64 n.decl, .int .i64 (n.op : Int), .int .i64 (n.a : Int), .int .i64 (n.b : Int), .int .i64 (n.c : Int), .bool n.delayed, .bool n.behind] 171)).cell? ⟨wr.heap.size, 3, none⟩ = some (.string n.name) := (World.cell?_alloc_at _ _ _ _ rfl).trans rfl
          have z4 : (wr.alloc (.cells #[.int .i64 (n.kind : Int), .int .i64 (n.pos : Int), .int .i64 (n.value : Int), .string n.name, .int .i64 n.decl, .int .i64 (n.op : Int), .int .i64 (n.a : Int), .int .i64 (n.b : Int), .int .i64 (n.c : Int), .bool n.delayed, .bool n.behind] 171)).cell? ⟨wr.heap.size, 4, none⟩ = some (.int .i64 n.decl) := (World.cell?_alloc_at _ _ _ _ rfl).trans rfl
          have z5 : (wr.alloc (.cells #[.int .i64 (n.kind : Int), .int .i64 (n.pos : Int), .int .i64 (n.value : Int), .string n.name, .int .i64 n.decl, .int .i64 (n.op : Int), .int .i64 (n.a : Int), .int .i64 (n.b : Int), .int .i64 (n.c : Int), .bool n.delayed, .bool n.behind] 171)).cell? ⟨wr.heap.size, 5, none⟩ = some (.int .i64 (n.op : Int)) := (World.cell?_alloc_at _ _ _ _ rfl).trans rfl
          have z6 : (wr.alloc (.cells #[.int .i64 (n.kind : Int), .int .i64 (n.pos : Int), .int .i64 (n.value : Int), .string n.name, .int .i64 n.decl, .int .i64 (n.op : Int), .int .i64 (n.a : Int), .int .i64 (n.b : Int), .int .i64 (n.c : Int), .bool n.delayed, .bool n.behind] 171)).cell? ⟨wr.heap.size, 6, none⟩ = some (.int .i64 (n.a : Int)) := (World.cell?_alloc_at _ _ _ _ rfl).trans rfl
          have z7 : (wr.alloc (.cells #[.int .i64 (n.kind : Int), .int .i64 (n.pos : Int), .int .i64 (n.value : Int), .string n.name, .int .i64 n.decl, .int .i64 (n.op : Int), .int .i64 (n.a : Int), .int .i64 (n.b : Int), .int .i64 (n.c : Int), .bool n.delayed, .bool n.behind] 171)).cell? ⟨wr.heap.size, 7, none⟩ = some (.int .i64 (n.b : Int)) := (World.cell?_alloc_at _ _ _ _ rfl).trans rfl
          have z8 : (wr.alloc (.cells #[.int .i64 (n.kind : Int), .int .i64 (n.pos : Int), .int .i64 (n.value : Int), .string n.name, .int .i64 n.decl, .int .i64 (n.op : Int), .int .i64 (n.a : Int), .int .i64 (n.b : Int), .int .i64 (n.c : Int), .bool n.delayed, .bool n.behind] 171)).cell? ⟨wr.heap.size, 8, none⟩ = some (.int .i64 (n.c : Int)) := (World.cell?_alloc_at _ _ _ _ rfl).trans rfl
          have z9 : (wr.alloc (.cells #[.int .i64 (n.kind : Int), .int .i64 (n.pos : Int), .int .i64 (n.value : Int), .string n.name, .int .i64 n.decl, .int .i64 (n.op : Int), .int .i64 (n.a : Int), .int .i64 (n.b : Int), .int .i64 (n.c : Int), .bool n.delayed, .bool n.behind] 171)).cell? ⟨wr.heap.size, 9, none⟩ = some (.bool n.delayed) := (World.cell?_alloc_at _ _ _ _ rfl).trans rfl
          have z10 : (wr.alloc (.cells #[.int .i64 (n.kind : Int), .int .i64 (n.pos : Int), .int .i64 (n.value : Int), .string n.name, .int .i64 n.decl, .int .i64 (n.op : Int), .int .i64 (n.a : Int), .int .i64 (n.b : Int), .int .i64 (n.c : Int), .bool n.delayed, .bool n.behind] 171)).cell? ⟨wr.heap.size, 10, none⟩ = some (.bool n.behind) := (World.cell?_alloc_at _ _ _ _ rfl).trans rfl
          by_cases hfit : fitsF ds n t = true
          · have HREC2 : Hid (badTypeF ds (k + 1) (ns.drop (k + 1)) (tell n t tr2) = badTypeF ds 0 ns (roots ds (List.replicate ns.length false))) := hide (by rw [← HREC.out, if_pos hfit])
            clear HREC
            go_wp2_with fail
            go_region_held3 (fun w' => w'.cell? ⟨wr.heap.size, 0, none⟩ = some (.int .i64 (n.kind : Int)) ∧ w'.cell? ⟨wr.heap.size, 1, none⟩ = some (.int .i64 (n.pos : Int)) ∧ w'.cell? ⟨wr.heap.size, 2, none⟩ = some (.int .i64 (n.value : Int)) ∧ w'.cell? ⟨wr.heap.size, 3, none⟩ = some (.string n.name) ∧ w'.cell? ⟨wr.heap.size, 4, none⟩ = some (.int .i64 n.decl) ∧ w'.cell? ⟨wr.heap.size, 5, none⟩ = some (.int .i64 (n.op : Int)) ∧ w'.cell? ⟨wr.heap.size, 6, none⟩ = some (.int .i64 (n.a : Int)) ∧ w'.cell? ⟨wr.heap.size, 7, none⟩ = some (.int .i64 (n.b : Int)) ∧ w'.cell? ⟨wr.heap.size, 8, none⟩ = some (.int .i64 (n.c : Int)) ∧ w'.cell? ⟨wr.heap.size, 9, none⟩ = some (.bool n.delayed) ∧ w'.cell? ⟨wr.heap.size, 10, none⟩ = some (.bool n.behind) ∧ w'.cell? ⟨w.heap.size, k, none⟩ = some (.bool t)) (go_keep)
              ((go_at_call 111; refine (fits_any _ q ds ns _ _ HPA.out n t hk6 HDC.out).mono ?_; rintro e w2 ⟨rfl, hbF⟩; have s0 := (hbF.cell (p := ⟨wr.heap.size, 0, none⟩) (by simp)).trans z0; have s1 := (hbF.cell (p := ⟨wr.heap.size, 1, none⟩) (by simp)).trans z1; have s2 := (hbF.cell (p := ⟨wr.heap.size, 2, none⟩) (by simp)).trans z2; have s3 := (hbF.cell (p := ⟨wr.heap.size, 3, none⟩) (by simp)).trans z3; have s4 := (hbF.cell (p := ⟨wr.heap.size, 4, none⟩) (by simp)).trans z4; have s5 := (hbF.cell (p := ⟨wr.heap.size, 5, none⟩) (by simp)).trans z5; have s6 := (hbF.cell (p := ⟨wr.heap.size, 6, none⟩) (by simp)).trans z6; have s7 := (hbF.cell (p := ⟨wr.heap.size, 7, none⟩) (by simp)).trans z7; have s8 := (hbF.cell (p := ⟨wr.heap.size, 8, none⟩) (by simp)).trans z8; have s9 := (hbF.cell (p := ⟨wr.heap.size, 9, none⟩) (by simp)).trans z9; have s10 := (hbF.cell (p := ⟨wr.heap.size, 10, none⟩) (by simp)).trans z10; have st := (hbF.cell (p := ⟨w.heap.size, k, none⟩) (by simp; omega)).trans ha1))
            rename_i hHeld
            clear hHeld
            have HB2 : Hid (Below w.heap.size w w2) := hide ((hbx.alloc hbx.size _).drew.trans (hbF.mono (by have := hbx.size; simp; omega)))
            have HROW2 : Hid (BRow w2 w.heap.size tr2) := hide (((HROW.out.alloc _).below ((Below.refl _ _).drew)).below hbF)
            obtain ⟨hpa, hpb, hpc⟩ := HPT.out
            have hlt2 : w.heap.size < wr.heap.size := ltT
            have nT1 : w.heap.size ≠ wr.heap.size := by omega
            have nT2 : wr.heap.size ≠ w.heap.size := by omega
            clear hbF hbx HROW HPA HDC ha1 yt z0 z1 z2 z3 z4 z5 z6 z7 z8 z9 z10 y0 y1 y2 y3 y4 y5 y6 y7 y8 y9 y10 ltT HPT
            have hc : (n.kind = 0 ∨ n.kind = 1 ∨ n.kind = 2) ∨ n.kind = 3 ∨ n.kind = 4 ∨ n.kind = 5 ∨ n.kind = 6 := by omega
            clear hk6
            rcases hc with hkk | hkk | hkk | hkk | hkk
            · have HT : Hid (tell n t tr2 = tr2) := hide (by unfold tell; rw [if_neg (by omega), if_neg (by omega), if_neg (by omega), if_neg (by omega)])
              have q3 : ((n.kind : Int) == 3) = false := by rw [beq_eq_false_iff_ne]; omega
              have q4 : ((n.kind : Int) == 4) = false := by rw [beq_eq_false_iff_ne]; omega
              have q5 : ((n.kind : Int) == 5) = false := by rw [beq_eq_false_iff_ne]; omega
              have q6 : ((n.kind : Int) == 6) = false := by rw [beq_eq_false_iff_ne]; omega
              clear hkk
              go_wp2
              go_roundw
              case rel => exact ⟨k + 1, tell n t tr2, by omega, by go_num, HB2.out, by rw [HT.out]; exact HROW2.out, by rw [HT.out]; exact HTL.out, HREC2.out⟩
              case measure => simp [intOf]; omega
            · have HT : Hid (tell n t tr2 = (tr2.set n.a true)) := hide (by unfold tell; simp [hkk])
              have q3 : ((n.kind : Int) == 3) = true := by rw [hkk]; rfl
              have hl := HLAT.out.1 hkk
              have ca := HROW2.out.cell (i := n.a) (by rw [HTL.out]; exact hpa)
              have ia0 : (0 : Int) ≤ (n.a : Int) := by omega
              have ia1 : (n.a : Int) < (ns.length : Int) := by omega
              have nka : k ≠ n.a := by omega
              have nka' : n.a ≠ k := by omega
              have tF := HROW2.out.froz
              clear hkk
              go_wp2
              go_roundw
              case rel =>
                refine ⟨k + 1, tell n t tr2, by omega, by go_num, ?_, ?_, ?_, HREC2.out⟩
                · exact (HB2.out.setCell (Nat.le_refl _) _)
                · rw [HT.out]
                  exact (HROW2.out.set _ _)
                · rw [HT.out]
                  simp; exact HTL.out
              case measure => simp [intOf]; omega
            · have HT : Hid (tell n t tr2 = (((tr2.set n.a true).set n.b t).set n.c t)) := hide (by unfold tell; simp [hkk])
              have q3 : ((n.kind : Int) == 3) = false := by rw [hkk]; rfl
              have q4 : ((n.kind : Int) == 4) = true := by rw [hkk]; rfl
              have hl := HLAT.out.2.1 hkk
              have ca := HROW2.out.cell (i := n.a) (by rw [HTL.out]; exact hpa)
              have ia0 : (0 : Int) ≤ (n.a : Int) := by omega
              have ia1 : (n.a : Int) < (ns.length : Int) := by omega
              have nka : k ≠ n.a := by omega
              have nka' : n.a ≠ k := by omega
              have cb := HROW2.out.cell (i := n.b) (by rw [HTL.out]; exact hpb)
              have ib0 : (0 : Int) ≤ (n.b : Int) := by omega
              have ib1 : (n.b : Int) < (ns.length : Int) := by omega
              have nkb : k ≠ n.b := by omega
              have nkb' : n.b ≠ k := by omega
              have cc := HROW2.out.cell (i := n.c) (by rw [HTL.out]; exact hpc)
              have ic0 : (0 : Int) ≤ (n.c : Int) := by omega
              have ic1 : (n.c : Int) < (ns.length : Int) := by omega
              have nkc : k ≠ n.c := by omega
              have nkc' : n.c ≠ k := by omega
              have nab : n.a ≠ n.b := by omega
              have nba : n.b ≠ n.a := by omega
              have nac : n.a ≠ n.c := by omega
              have nca : n.c ≠ n.a := by omega
              have nbc : n.b ≠ n.c := by omega
              have ncb : n.c ≠ n.b := by omega
              have tF := HROW2.out.froz
              clear hkk
              go_wp2_with fail
              go_big_region
              go_wp2_with fail
              go_big_region
              go_wp2
              go_roundw
              case rel =>
                refine ⟨k + 1, tell n t tr2, by omega, by go_num, ?_, ?_, ?_, HREC2.out⟩
                · exact (((HB2.out.setCell (Nat.le_refl _) _).setCell (Nat.le_refl _) _).setCell (Nat.le_refl _) _).drew.drew
                · rw [HT.out]
                  exact (((HROW2.out.set _ _).set _ _).set _ _).drew.drew
                · rw [HT.out]
                  simp; exact HTL.out
              case measure => simp [intOf]; omega
            · have HT : Hid (tell n t tr2 = ((tr2.set n.a t).set n.b t)) := hide (by unfold tell; simp [hkk])
              have q3 : ((n.kind : Int) == 3) = false := by rw [hkk]; rfl
              have q4 : ((n.kind : Int) == 4) = false := by rw [hkk]; rfl
              have q5 : ((n.kind : Int) == 5) = true := by rw [hkk]; rfl
              have hl := HLAT.out.2.2 (.inl hkk)
              have ca := HROW2.out.cell (i := n.a) (by rw [HTL.out]; exact hpa)
              have ia0 : (0 : Int) ≤ (n.a : Int) := by omega
              have ia1 : (n.a : Int) < (ns.length : Int) := by omega
              have nka : k ≠ n.a := by omega
              have nka' : n.a ≠ k := by omega
              have cb := HROW2.out.cell (i := n.b) (by rw [HTL.out]; exact hpb)
              have ib0 : (0 : Int) ≤ (n.b : Int) := by omega
              have ib1 : (n.b : Int) < (ns.length : Int) := by omega
              have nkb : k ≠ n.b := by omega
              have nkb' : n.b ≠ k := by omega
              have nab : n.a ≠ n.b := by omega
              have nba : n.b ≠ n.a := by omega
              have tF := HROW2.out.froz
              clear hkk
              go_wp2_with fail
              go_big_region
              go_wp2_with fail
              go_big_region
              go_wp2
              go_roundw
              case rel =>
                refine ⟨k + 1, tell n t tr2, by omega, by go_num, ?_, ?_, ?_, HREC2.out⟩
                · exact ((HB2.out.setCell (Nat.le_refl _) _).setCell (Nat.le_refl _) _).drew.drew
                · rw [HT.out]
                  exact ((HROW2.out.set _ _).set _ _).drew.drew
                · rw [HT.out]
                  simp; exact HTL.out
              case measure => simp [intOf]; omega
            · have HT : Hid (tell n t tr2 = ((tr2.set n.a (takesT n.op)).set n.b (takesT n.op))) := hide (by unfold tell; simp [hkk])
              have q3 : ((n.kind : Int) == 3) = false := by rw [hkk]; rfl
              have q4 : ((n.kind : Int) == 4) = false := by rw [hkk]; rfl
              have q5 : ((n.kind : Int) == 5) = false := by rw [hkk]; rfl
              have q6 : ((n.kind : Int) == 6) = true := by rw [hkk]; rfl
              have hl := HLAT.out.2.2 (.inr hkk)
              have ca := HROW2.out.cell (i := n.a) (by rw [HTL.out]; exact hpa)
              have ia0 : (0 : Int) ≤ (n.a : Int) := by omega
              have ia1 : (n.a : Int) < (ns.length : Int) := by omega
              have nka : k ≠ n.a := by omega
              have nka' : n.a ≠ k := by omega
              have cb := HROW2.out.cell (i := n.b) (by rw [HTL.out]; exact hpb)
              have ib0 : (0 : Int) ≤ (n.b : Int) := by omega
              have ib1 : (n.b : Int) < (ns.length : Int) := by omega
              have nkb : k ≠ n.b := by omega
              have nkb' : n.b ≠ k := by omega
              have nab : n.a ≠ n.b := by omega
              have nba : n.b ≠ n.a := by omega
              have tF := HROW2.out.froz
              clear hkk
              go_wp2_with fail
              go_region_held3 (fun w' => w'.cell? ⟨wr.heap.size, 5, none⟩ = some (.int .i64 (n.op : Int)) ∧ w'.cell? ⟨wr.heap.size, 6, none⟩ = some (.int .i64 (n.a : Int)) ∧ w'.cell? ⟨wr.heap.size, 7, none⟩ = some (.int .i64 (n.b : Int))) (go_keep) ((go_at_call 112; refine (takesTruths_any _ _).mono ?_; rintro e w3 ⟨rfl, hw3⟩; subst hw3))
              rename_i hHeld
              clear hHeld
              go_wp2_with fail
              go_region_held3 (fun w' => w'.cell? ⟨wr.heap.size, 5, none⟩ = some (.int .i64 (n.op : Int)) ∧ w'.cell? ⟨wr.heap.size, 6, none⟩ = some (.int .i64 (n.a : Int)) ∧ w'.cell? ⟨wr.heap.size, 7, none⟩ = some (.int .i64 (n.b : Int))) (go_keep) ((go_at_call 112; refine (takesTruths_any _ _).mono ?_; rintro e w3 ⟨rfl, hw3⟩; subst hw3))
              rename_i hHeld
              clear hHeld
              go_wp2
              go_roundw
              case rel =>
                refine ⟨k + 1, tell n t tr2, by omega, by go_num, ?_, ?_, ?_, HREC2.out⟩
                · exact ((HB2.out.setCell (Nat.le_refl _) _).setCell (Nat.le_refl _) _).drew.drew
                · rw [HT.out]
                  exact ((HROW2.out.set _ _).set _ _).drew.drew
                · rw [HT.out]
                  simp; exact HTL.out
              case measure => simp [intOf]; omega
          · have hfit' : fitsF ds n t = false := by simpa using hfit
            have HF : Hid (badTypeF ds 0 ns (roots ds (List.replicate ns.length false)) = some n.pos) := hide (by rw [← HREC.out, if_neg hfit])
            clear HREC hfit
            go_wp2_with fail
            go_region_held3 (fun w' => w'.cell? ⟨wr.heap.size, 0, none⟩ = some (.int .i64 (n.kind : Int)) ∧ w'.cell? ⟨wr.heap.size, 1, none⟩ = some (.int .i64 (n.pos : Int)) ∧ w'.cell? ⟨wr.heap.size, 2, none⟩ = some (.int .i64 (n.value : Int)) ∧ w'.cell? ⟨wr.heap.size, 3, none⟩ = some (.string n.name) ∧ w'.cell? ⟨wr.heap.size, 4, none⟩ = some (.int .i64 n.decl) ∧ w'.cell? ⟨wr.heap.size, 5, none⟩ = some (.int .i64 (n.op : Int)) ∧ w'.cell? ⟨wr.heap.size, 6, none⟩ = some (.int .i64 (n.a : Int)) ∧ w'.cell? ⟨wr.heap.size, 7, none⟩ = some (.int .i64 (n.b : Int)) ∧ w'.cell? ⟨wr.heap.size, 8, none⟩ = some (.int .i64 (n.c : Int)) ∧ w'.cell? ⟨wr.heap.size, 9, none⟩ = some (.bool n.delayed) ∧ w'.cell? ⟨wr.heap.size, 10, none⟩ = some (.bool n.behind) ∧ w'.cell? ⟨w.heap.size, k, none⟩ = some (.bool t)) (go_keep)
              ((go_at_call 111; refine (fits_any _ q ds ns _ _ HPA.out n t hk6 HDC.out).mono ?_; rintro e w2 ⟨rfl, hbF⟩; have s0 := (hbF.cell (p := ⟨wr.heap.size, 0, none⟩) (by simp)).trans z0; have s1 := (hbF.cell (p := ⟨wr.heap.size, 1, none⟩) (by simp)).trans z1; have s2 := (hbF.cell (p := ⟨wr.heap.size, 2, none⟩) (by simp)).trans z2; have s3 := (hbF.cell (p := ⟨wr.heap.size, 3, none⟩) (by simp)).trans z3; have s4 := (hbF.cell (p := ⟨wr.heap.size, 4, none⟩) (by simp)).trans z4; have s5 := (hbF.cell (p := ⟨wr.heap.size, 5, none⟩) (by simp)).trans z5; have s6 := (hbF.cell (p := ⟨wr.heap.size, 6, none⟩) (by simp)).trans z6; have s7 := (hbF.cell (p := ⟨wr.heap.size, 7, none⟩) (by simp)).trans z7; have s8 := (hbF.cell (p := ⟨wr.heap.size, 8, none⟩) (by simp)).trans z8; have s9 := (hbF.cell (p := ⟨wr.heap.size, 9, none⟩) (by simp)).trans z9; have s10 := (hbF.cell (p := ⟨wr.heap.size, 10, none⟩) (by simp)).trans z10; have st := (hbF.cell (p := ⟨w.heap.size, k, none⟩) (by simp; omega)).trans ha1))
            rename_i hHeld
            clear hHeld
            have HB2 : Hid (Below w.heap.size w w2) := hide ((hbx.alloc hbx.size _).drew.trans (hbF.mono (by have := hbx.size; simp; omega)))
            have HROW2 : Hid (BRow w2 w.heap.size tr2) := hide (((HROW.out.alloc _).below ((Below.refl _ _).drew)).below hbF)
            obtain ⟨hpa, hpb, hpc⟩ := HPT.out
            have hlt2 : w.heap.size < wr.heap.size := ltT
            have nT1 : w.heap.size ≠ wr.heap.size := by omega
            have nT2 : wr.heap.size ≠ w.heap.size := by omega
            clear hbF hbx HROW HPA HDC ha1 yt z0 z1 z2 z3 z4 z5 z6 z7 z8 z9 z10 y0 y1 y2 y3 y4 y5 y6 y7 y8 y9 y10 ltT HPT
            go_wp2
            go_ret2
            exact ⟨opt_some HF.out, HB2.out⟩
        · have HF : Hid (badTypeF ds 0 ns (roots ds (List.replicate ns.length false)) = none) := hide (by rw [← hrec, List.drop_of_length_le (by omega)]; rfl)
          clear hrec
          go_wp2
          go_ret2
          exact ⟨opt_none HF.out, hbx⟩
end Go.Proofs.Ytmndgoapkmhglab
