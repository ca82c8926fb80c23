import Derived.Test.Ytmndgoapkmhglabc41AcF
namespace Go.Proofs.Ytmndgoapkmhglab
open Go.RowKit
attribute [local go_sem ↓] Go.wp_at_zero Go.wp_at_succ
def dcBlk (d : Dc) : Obj := .cells #[.int .i64 (d.kind : Int), .int .i64 (d.number : Int), .string d.name, .int .i64 (d.pos : Int), .int .i64 (d.place : Int), .int .i64 (d.root : Int), .int .i64 (d.fin : Int)] 126
set_option maxHeartbeats 2000000 in
set_option maxRecDepth 100000 in
theorem fill_any (w0 w : World) (q : Nat) (ds : List Dc) (ns : List Nd) (vd vn vX vT : Value) (ins : List (List Int)) (NV : Nat → Nat → Int) (T : List Nat) (h : ProgAt w0 q ds ns vd vn) (hwf : ProgWf ds ns) (hX : LsAt w0 vX ins) (hT : RowAt w0 vT (T.map fun (t : Nat) => (t : Int)))
    (hM : Meant ds ns ins NV) (hO : OrdOk ds (markAll ds ns 0 ds noM) T) (bq g gb k : Nat) (X0 Y : Nat → Int) (hB : Beat w0 w bq g gb ns.length k X0 Y) (hY : k ≠ 0 → ∀ c, c < ns.length → Y c = NV (k - 1) c) :
    Calls Try.prog 69 #[.pointer (some ⟨q, 0, none⟩), vX, vT, .pointer (some ⟨bq, 0, none⟩)] w fun e w' => e = .returned (.tuple #[]) ∧ ∃ X, Beat w0 w' bq g gb ns.length k X Y ∧ ∀ i, i < ns.length → X i = NV k i := by
  have hnl := hwf.nl
  have HV := hide (fun W X hW i hi => value_any w0 W q ds ns vd vn vX ins h hwf hX hM.decl (fun d hd hk => by obtain ⟨a, ha, rfl⟩ := List.getElem_of_mem hd; exact (hM.root a _ (List.getElem?_eq_getElem ha) hk).1) bq g gb k X Y hW i hi)
  have hpb : ∀ n ∈ ns, n.b < ns.length := fun n hn => (hwf.parts n hn).2.1
  have hTr := hT
  obtain ⟨AT, CT, rfl, hTm, hTc⟩ := hT
  rw [List.length_map] at *
  obtain ⟨av, cap, rfl, hsh⟩ := own_shape h.decls
  obtain ⟨an, capn, rfl, hshn⟩ := own_shape h.nodes
  have HTC := hide hTc
  have HSH := hide hsh
  have HSHN := hide hshn
  have HP := hide h
  have HM := hide hM
  have HO := hide hO
  have HY := hide hY
  have HB := hide hB
  have HPB := hide hpb
  clear h hsh hwf hshn hX hTc hM hO hY hB hTr hpb
  go_enter Try.func69, Try.ntmps69
  go_wp2
  go_loopw [15] (fun vj wr => ∃ (j : Nat) (X : Nat → Int), j ≤ T.length ∧ vj = .int .i64 j ∧ Beat w0 wr bq g gb ns.length k X Y ∧ DoneT ds ns (NV k) T j X) (fun vj _ => T.length - (intOf vj).toNat)
  case atStart => exact ⟨0, X0, Nat.zero_le _, rfl, HB.out, ⟨fun t ht => by simp at ht⟩⟩
  case round =>
    clear HB
    obtain ⟨j, X, hj, rfl, hB, hD⟩ := hrel
    by_cases hjl : j < T.length
    · obtain ⟨bT, oT, rfl, hbT, hcT⟩ := HTC.out (by first | omega | (rw [List.length_map]; omega))
      obtain ⟨t, ht⟩ : ∃ t, t = T[j]'hjl := ⟨_, rfl⟩
      have htj : T[j]? = some t := by rw [List.getElem?_eq_getElem hjl, ht]
      have ct : wr.cell? ⟨bT, oT + j, none⟩ = some (.int .i64 (t : Int)) := by
        have := hcT j (by first | omega | (rw [List.length_map]; omega))
        rw [List.getElem_map] at this
        rw [ht]
        exact (hB.bel.cell (p := ⟨bT, oT + j, none⟩) hbT).trans this
      obtain ⟨d, hd, hk⟩ := HO.out.eqn t (List.mem_of_getElem? htj)
      obtain ⟨htl, htd⟩ := List.getElem?_eq_some_iff.1 hd
      obtain ⟨ga, rfl, _, hga⟩ := HSH.out (by omega)
      obtain ⟨x0, x1, x2, x3, x4, x5, x6⟩ := dc_later HP.out.decls hB.bel hga htl d htd.symm
      obtain ⟨s1, s2⟩ := HM.out.segs t d hd hk
      have p0 := (HP.out.below hB.bel).c0
      have j1 : (0 : Int) ≤ (j : Int) := by omega
      have j2 : (j : Int) < (T.length : Int) := by omega
      have t1 : (0 : Int) ≤ (t : Int) := by omega
      have t2 : (t : Int) < (ds.length : Int) := by omega
      have HB := hide hB
      have HD := hide hD
      have HHD := hide hd
      have HTJ := hide htj
      obtain ⟨dq, hdq0⟩ : ∃ dq, dq = wr.heap.size := ⟨_, rfl⟩
      have hdq : g ≠ dq := by have := World.rowIs.lt hB.now; omega
      have HDQ := hide hdq0
      clear hB hD ht htd hd htj hcT hdq0
      go_wp2
      go_loopw [11] (fun vi wx => ∃ (m : Nat) (X2 : Nat → Int), d.root ≤ m ∧ m ≤ d.fin ∧ vi = .int .i64 ((m : Int) - 1) ∧ Beat w0 wx bq g gb ns.length k X2 Y ∧ DoneT ds ns (NV k) T j X2 ∧ (∀ c, m ≤ c → c < d.fin → dlAt ns c = false → X2 c = NV k c) ∧ wx.heap[dq]? = some (dcBlk d)) (fun vi _ => (intOf vi + 1).toNat)
      case atStart => exact ⟨d.fin, X, by omega, Nat.le_refl _, by go_num, HB.out.alloc _, HD.out, fun c h1 h2 => by omega, by rw [HDQ.out]; exact heap_alloc_new _ _⟩
      case round =>
        clear HB x0 x1 x2 x3 x4 x5 x6 p0 ct
        obtain ⟨m, X2, hm1, hm2, rfl, hB, hD, hI, hq⟩ := hrel
        have z5 : wr.cell? ⟨dq, 5, none⟩ = some (.int .i64 (d.root : Int)) := (cell_of_row wr _ 5 _ _ _ hq).trans rfl
        rw [HDQ.out] at z5
        by_cases hmr : d.root < m
        · obtain ⟨i, rfl⟩ : ∃ i, m = i + 1 := ⟨m - 1, by omega⟩
          have hil : i < ns.length := by omega
          obtain ⟨gn, rfl, _, hgn⟩ := HSHN.out (by omega)
          obtain ⟨n, hn⟩ : ∃ n, n = ns[i]'hil := ⟨_, rfl⟩
          have p1 := (HP.out.below hB.bel).c1
          have y9 := (nd_later HP.out.nodes hB.bel hgn hil n hn).2.2.2.2.2.2.2.2.2.1
          have i1 : (0 : Int) ≤ (i : Int) := by omega
          have i2 : (i : Int) < (ns.length : Int) := by omega
          have ei : ((i + 1 : Nat) : Int) - 1 = (i : Int) := by omega
          have i3 : (i : Int) ≥ (d.root : Int) := by omega
          rw [ei]
          have hdl : dlAt ns i = n.delayed := by unfold dlAt; rw [List.getElem?_eq_getElem hil, ← hn]; rfl
          have HB := hide hB
          have HD := hide hD
          have HI := hide hI
          have HQ := hide hq
          have HDL := hide hdl
          have HN := hide hn
          clear hB hD hI hq hdl hn ei
          by_cases hde : n.delayed = true
          · go_wp2
            go_roundw
            case rel =>
              refine ⟨i, X2, by omega, by omega, by go_num, HB.out, HD.out, fun c h1 h2 h3 => ?_, HQ.out⟩
              rcases Nat.eq_or_lt_of_le h1 with rfl | h'
              · rw [HDL.out, hde] at h3; cases h3
              · exact HI.out c h' h2 h3
            case measure => simp [intOf]
          · have hde' : n.delayed = false := by simpa using hde
            have d1 := HB.out.c1
            have xi := HB.out.x hil
            have fi := HB.out.froz i
            clear hde
            have hgb := HB.out.ne
            have gl : g < wr.heap.size := World.rowIs.lt HB.out.now
            have bl : bq < wr.heap.size := (Array.getElem?_eq_some_iff.1 HB.out.blk).1
            go_wp2_with fail
            go_region_held3 (fun w' => w'.cell? ⟨bq, 1, none⟩ = some (.slice (some ⟨g, 0, none⟩) ns.length ns.length)) (first | go_keep | exact (World.cell?_setCell_other _ _ _ _ (by intro e; exact hgb (congrArg Addr.block e))).trans s1 | exact (World.cell?_setCell_other _ _ _ _ (by intro e; exact hgb (congrArg Addr.block e).symm)).trans s1) ((go_at_call 99; refine (HV.out _ X2 (by first | exact HB.out.drew | exact HB.out) i hil).mono ?_; rintro e w3 ⟨rfl, hb3⟩; have s1 := (hb3.cell (p := ⟨bq, 1, none⟩) (by simpa using bl)).trans d1; have s2 := (hb3.cell (p := ⟨g, i, none⟩) (by simpa using gl)).trans xi; have s3 := (hb3.frozen (p := ⟨g, i, none⟩) (by simpa using gl)).trans fi))
            rename_i hHeld
            clear hHeld
            have hv : valF ds ins ns[i] k X2 Y = NV k i := turn_val HM.out HO.out HD.out HY.out HPB.out HTJ.out HHD.out hil (by omega) (by omega) (by rw [← HN.out]; exact hde') (fun c h1 h2 h3 => HI.out c h1 h2 h3)
            rw [hv]
            have HB3 := hide ((HB.out.drew).below hb3)
            have HBF := hide hb3
            clear hv hb3 s1 s2 s3
            go_wp2
            go_roundw
            case rel =>
              refine ⟨i, fun c => if c = i then NV k i else X2 c, by omega, by omega, by go_num, by first | exact HB3.out.set i _ | exact (HB3.out.set i _).drew, HD.out.set i, fun c h1 h2 h3 => ?_, ?_⟩
              · by_cases e : c = i
                · simp [e]
                · simp only [if_neg e]; exact HI.out c (by omega) h2 h3
              · have h6 : dq < wr.heap.size := (Array.getElem?_eq_some_iff.1 HQ.out).1
                have h7 : w3.heap[dq]? = wr.heap[dq]? := HBF.out.block dq (by simpa using h6)
                exact (heap_setCell_other w3 ⟨g, i, none⟩ dq _ (Ne.symm hdq)).trans (h7.trans HQ.out)
            case measure => simp [intOf]
        · have em : m = d.root := by omega
          subst em
          have z6 : ¬ ((d.root : Int) - 1 ≥ (d.root : Int)) := by omega
          have HB := hide hB
          have HD := hide hD
          have HI := hide hI
          clear hB hD hI hq
          go_wp2
          go_roundw
          case rel =>
            refine ⟨j + 1, X2, by omega, by go_num, HB.out, ⟨fun u hu e he c h1 h2 h3 => ?_⟩⟩
            rw [List.take_add_one, HTJ.out] at hu
            rcases List.mem_append.1 hu with hu | hu
            · exact HD.out.all u hu e he c h1 h2 h3
            · have eu : u = t := by simpa using hu
              subst eu
              rw [HHD.out] at he
              cases he
              exact HI.out c h1 h2 h3
          case measure => simp [intOf]; omega
    · have ej : j = T.length := by omega
      subst ej
      have hdone : ∀ c, c < ns.length → dlAt ns c = false → X c = NV k c := fun c hc hl => by
        obtain ⟨a, d, hd, hk, h1, h2⟩ := HM.out.cover c hc
        exact hD.all a (by rw [List.take_length]; exact HO.out.all a d hd hk) d hd c h1 h2 hl
      have p1 := (HP.out.below hB.bel).c1
      have HB := hide hB
      have HDONE := hide hdone
      clear hB hD hdone
      go_wp2
      go_loopw [12] (fun vi wx => ∃ (m : Nat) (X2 : Nat → Int), m ≤ ns.length ∧ vi = .int .i64 ((m : Int) - 1) ∧ Beat w0 wx bq g gb ns.length k X2 Y ∧ (∀ c, c < ns.length → dlAt ns c = false → X2 c = NV k c) ∧ (∀ c, m ≤ c → c < ns.length → X2 c = NV k c)) (fun vi _ => (intOf vi + 1).toNat)
      case atStart => exact ⟨ns.length, X, Nat.le_refl _, by go_num, HB.out, HDONE.out, fun c h1 h2 => by omega⟩
      case round =>
        clear HB HDONE p1
        obtain ⟨m, X2, hm, rfl, hB, hp, hq⟩ := hrel
        by_cases hm0 : 0 < m
        · obtain ⟨i, rfl⟩ : ∃ i, m = i + 1 := ⟨m - 1, by omega⟩
          have hil : i < ns.length := by omega
          obtain ⟨gn, rfl, _, hgn⟩ := HSHN.out (by omega)
          obtain ⟨n, hn⟩ : ∃ n, n = ns[i]'hil := ⟨_, rfl⟩
          have p1 := (HP.out.below hB.bel).c1
          have y9 := (nd_later HP.out.nodes hB.bel hgn hil n hn).2.2.2.2.2.2.2.2.2.1
          have i1 : (0 : Int) ≤ (i : Int) := by omega
          have i2 : (i : Int) < (ns.length : Int) := by omega
          have ei : ((i + 1 : Nat) : Int) - 1 = (i : Int) := by omega
          have i3 : (i : Int) ≥ 0 := by omega
          rw [ei]
          have hdl : dlAt ns i = n.delayed := by unfold dlAt; rw [List.getElem?_eq_getElem hil, ← hn]; rfl
          have HB := hide hB
          have HPP := hide hp
          have HQQ := hide hq
          have HDL := hide hdl
          have HN := hide hn
          clear hB hp hq hdl hn ei
          by_cases hde : n.delayed = true
          · have d1 := HB.out.c1
            have xi := HB.out.x hil
            have fi := HB.out.froz i
            have hgb := HB.out.ne
            have gl : g < wr.heap.size := World.rowIs.lt HB.out.now
            have bl : bq < wr.heap.size := (Array.getElem?_eq_some_iff.1 HB.out.blk).1
            go_wp2_with fail
            go_region_held3 (fun w' => w'.cell? ⟨bq, 1, none⟩ = some (.slice (some ⟨g, 0, none⟩) ns.length ns.length)) (first | go_keep | exact (World.cell?_setCell_other _ _ _ _ (by intro e; exact hgb (congrArg Addr.block e))).trans s1 | exact (World.cell?_setCell_other _ _ _ _ (by intro e; exact hgb (congrArg Addr.block e).symm)).trans s1) ((go_at_call 99; refine (HV.out _ X2 (by first | exact HB.out.drew | exact HB.out) i hil).mono ?_; rintro e w3 ⟨rfl, hb3⟩; have s1 := (hb3.cell (p := ⟨bq, 1, none⟩) (by simpa using bl)).trans d1; have s2 := (hb3.cell (p := ⟨g, i, none⟩) (by simpa using gl)).trans xi; have s3 := (hb3.frozen (p := ⟨g, i, none⟩) (by simpa using gl)).trans fi))
            rename_i hHeld
            clear hHeld
            have hv : valF ds ins ns[i] k X2 Y = NV k i := late_val HM.out HY.out HPB.out hil HPP.out (fun c h1 h2 => HQQ.out c h1 h2)
            rw [hv]
            have HB3 := hide ((HB.out.drew).below hb3)
            clear hv hb3 s1 s2 s3
            go_wp2
            go_roundw
            case rel =>
              refine ⟨i, fun c => if c = i then NV k i else X2 c, by omega, by go_num, by first | exact HB3.out.set i _ | exact (HB3.out.set i _).drew, fun c h1 h2 => ?_, fun c h1 h2 => ?_⟩
              · by_cases e : c = i
                · simp [e]
                · simp only [if_neg e]; exact HPP.out c h1 h2
              · by_cases e : c = i
                · simp [e]
                · simp only [if_neg e]; exact HQQ.out c (by omega) h2
            case measure => simp [intOf]
          · have hde' : n.delayed = false := by simpa using hde
            have HDE := hide hde'
            clear hde
            go_wp2
            go_roundw
            case rel =>
              refine ⟨i, X2, by omega, by go_num, HB.out, HPP.out, fun c h1 h2 => ?_⟩
              rcases Nat.eq_or_lt_of_le h1 with rfl | h'
              · exact HPP.out i hil (by rw [HDL.out]; exact HDE.out)
              · exact HQQ.out c h' h2
            case measure => simp [intOf]
        · have em : m = 0 := by omega
          subst em
          have z6 : ¬ (((0 : Nat) : Int) - 1 ≥ 0) := by omega
          have HB := hide hB
          have HQQ := hide hq
          clear hB hp hq
          go_wp2
          go_end0
          exact ⟨rfl, X2, HB.out, fun i hi => HQQ.out i (Nat.zero_le _) hi⟩
end Go.Proofs.Ytmndgoapkmhglab
