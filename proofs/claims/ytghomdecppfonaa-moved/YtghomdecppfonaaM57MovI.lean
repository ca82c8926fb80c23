import Derived.Laws.IdiomStrings
import Derived.Lib.ConvBytes
import Derived.Test.YtghomdecppfonaaM13Bytes
import Derived.Test.YtghomdecppfonaaM40SvE
import Derived.Test.YtghomdecppfonaaM44MarkE
import Derived.Test.YtghomdecppfonaaM45PfxB
import Derived.Test.YtghomdecppfonaaM47PLnk
import Derived.Test.YtghomdecppfonaaM56MovF
/- moved. -/
namespace Go.Proofs.Ytghomdecppfonaa
open Go.RowKit
attribute [local go_sem ↓] Go.wp_at_zero Go.wp_at_succ

theorem marks_lt {s : ByteArray} {L : List Dl} (h : Spell (toks s) L 0) : (marksF s).Pairwise (· < ·) := by
  rw [marks_text h, List.pairwise_map]
  have hp : (eqL L).Pairwise (fun x y => x.i + x.len ≤ y.i) := (spell_lt L 0 h).filter _
  refine hp.imp_of_mem ?_
  intro x y hx hy hxy
  have hpl : ∀ x ∈ eqL L, (tkAt (toks s) (x.i + 3)).kind = 3 := fun x hx => by
    have hk : x.kind ≠ 0 := by simpa using (List.mem_filter.1 hx).2
    rcases (spell_mem L 0 h x (eq_mem hx)).2.2 with ⟨h0, _⟩ | ⟨_, _, _, h4, _⟩
    · exact absurd h0 hk
    · exact h4.1
  have hpos : ∀ x ∈ eqL L, 0 < (tkAt (toks s) (x.i + 3)).l.length := fun x hx => List.length_pos_iff.2 (fine_dig (toks_fine s (x.i + 3) (by rw [hpl x hx]; decide)) (hpl x hx)).2.2
  have := x.len_pos
  have h1 := toks_apart (s := s) (i := x.i + 3) (j := y.i + 3) (by omega) (by rw [hpl y hy]; decide)
  have h2 := hpos x hx
  have h3 := hpos y hy
  unfold lastD
  omega

theorem movS_nil (s : ByteArray) (g : Nat → Nat) : (movS s [] g).data.toList = s.data.toList := by
  apply List.ext_getElem?
  intro j
  simp [movS]
theorem movS_snoc {s : ByteArray} {ms : List Nat} {g : Nat → Nat} {i : Nat} (hi : i < ms.length) (hp : ms.Pairwise (· < ·)) (hm : ms[i] < s.size) :
    byt (movS s (ms.take i) g) ms[i] = byt s ms[i] ∧ (movS s (ms.take i) g).data.toList.set ms[i] (UInt8.ofNat (48 + g (byt s ms[i] - 48))) = (movS s (ms.take (i + 1)) g).data.toList := by
  have hne : ms[i] ∉ ms.take i := fun h => by
    obtain ⟨j, hj, e⟩ := List.getElem_of_mem h
    rw [List.length_take] at hj
    rw [List.getElem_take] at e
    have := (List.pairwise_iff_getElem.1 hp) j i (by omega) hi (by omega)
    omega
  refine ⟨by rw [movS_byt s _ g _ hm, if_neg hne], ?_⟩
  apply List.ext_getElem?
  intro j
  rw [List.getElem?_set]
  simp only [movS, List.getElem?_mapIdx, List.length_mapIdx]
  have hl : s.data.toList.length = s.size := Array.length_toList
  by_cases e : ms[i] = j
  · subst e
    rw [if_pos rfl, if_pos (by omega), List.getElem?_eq_getElem (by omega)]
    simp only [Option.map_some]
    rw [if_pos (by rw [List.take_succ_eq_append_getElem hi]; exact List.mem_append.2 (.inr (List.mem_singleton.2 rfl)))]
    have eb : byt s ms[i] = (s.data.toList[ms[i]]'(by omega)).toNat := by unfold byt; rw [List.getD_eq_getElem?_getD, List.getElem?_eq_getElem (by omega)]; rfl
    rw [eb]
  · rw [if_neg e]
    congr 1
    funext c
    have : j ∈ ms.take (i + 1) ↔ j ∈ ms.take i := by
      rw [List.take_succ_eq_append_getElem hi, List.mem_append, List.mem_singleton]
      exact ⟨fun h => h.elim id (fun h => absurd h.symm e), .inl⟩
    simp only [this]

/-- bytes of one's own. -/
def BAt (w : World) (G : Nat) (l : List UInt8) : Prop := ∀ j, (hj : j < l.length) → w.cell? ⟨G, j, none⟩ = some (.int .u8 (l[j].toNat : Int)) ∧ w.frozen? ⟨G, j, none⟩ = false
theorem BAt.below {w w' : World} {G : Nat} {l : List UInt8} (h : BAt w G l) (hb : Below w.heap.size w w') (hG : G < w.heap.size) : BAt w' G l := fun j hj =>
  ⟨(hb.cell (p := ⟨G, j, none⟩) hG).trans (h j hj).1, (hb.frozen (p := ⟨G, j, none⟩) hG).trans (h j hj).2⟩
theorem BAt.set {w : World} {G : Nat} {l : List UInt8} (h : BAt w G l) {m : Nat} (hm : m < l.length) (c : UInt8) : BAt (w.setCell ⟨G, m, none⟩ (.int .u8 (c.toNat : Int))) G (l.set m c) := fun j hj => by
  rw [List.length_set] at hj
  refine ⟨?_, by rw [World.frozen?_setCell]; exact (h j hj).2⟩
  rw [List.getElem_set]
  by_cases e : m = j
  · subst e
    rw [if_pos rfl]
    exact World.cell?_setCell_same _ _ _ (h m hm).1
  · rw [if_neg e, World.cell?_setCell_other _ _ _ _ (by intro e2; exact e (congrArg Addr.off e2))]
    exact (h j hj).1

set_option maxHeartbeats 4000000 in
set_option maxRecDepth 100000 in
theorem moved_any (s : ByteArray) (w : World) (hs : s.size ≤ 1500) {L : List Dl} (hsp : Spell (toks s) L 0) (r : Nat) (hr : r < 4) (gt : Bool) :
    Calls Try.prog 25 #[.string s, .int .i64 (r : Int), .bool gt] w fun e w' => e = .returned (.string (movS s (marksF s) (if gt then fun _ => 0 else rotG r))) ∧ Below w.heap.size w w' := by
  have hpw := marks_lt hsp
  have hin := marks_in s
  have hml : (marksF s).length ≤ 1500 := Nat.le_trans (mkL_len _ _ _) hs
  obtain ⟨cap, w1, hconv, hB, hb1, hs1⟩ : ∃ cap w1, (convert 9 67 (.string s)).run Try.prog w = .ok (.slice (some ⟨w.heap.size, 0, none⟩) s.size cap) w1 ∧ BAt w1 w.heap.size s.data.toList ∧ Below w.heap.size w w1 ∧ w1.heap.size = w.heap.size + 1 := by
    have h := Go.Lib.run_convert_string_bytes (P := Try.prog) w 9 67 5 s Try.underlying9 Try.underlying67 Try.underlying5
    refine ⟨_, _, h, fun j hj => ?_, ?_, Go.Lib.bytesWorld_size w _ s⟩
    · have hj' : j < s.size := by have : s.data.toList.length = s.size := Array.length_toList; omega
      refine ⟨?_, ?_⟩
      · rw [Go.Lib.bytesWorld_cell w _ s j hj', List.getD_eq_getElem?_getD, List.getElem?_eq_getElem hj]; rfl
      · have hn := Go.Lib.bytesWorld_at_new w 5 s
        have hz : s.size ≤ (Go.Lib.bytesCells w 5 s).size := by
          unfold Go.Lib.bytesCells
          rw [Array.size_append, Array.size_map]
          exact Nat.le_add_right _ _
        simp [World.frozen?, hn]
        omega
    · exact ⟨rfl, rfl, rfl, by rw [Go.Lib.bytesWorld_size]; omega, fun k hk => Go.Lib.bytesWorld_at_old w _ s k hk⟩
  have HM := hide (marks_any s w1 hs)
  have HB := hide hB
  have HB1 := hide hb1
  have HPW := hide hpw
  have HIN := hide hin
  have hlen : s.data.toList.length = s.size := Array.length_toList
  generalize hg : (if gt = true then (fun _ => 0) else rotG r) = g
  have HG := hide hg
  clear hB hb1 hpw hin hg
  go_enter Try.func25, Try.ntmps25
  go_wp2_with fail
  refine HM.out.mono ?_
  rintro e w2 ⟨vm, rfl, hown, hb2⟩
  obtain ⟨am, cm, rfl, hsh⟩ := own_shape hown
  have HOW := hide hown
  have HSH := hide hsh
  have HB2 := hide hb2
  have HBA : Hid (BAt w2 w.heap.size s.data.toList) := hide (HB.out.below hb2 (by omega))
  have hs2 := hb2.size
  clear hown hsh hb2 HB HM hconv
  go_wp2
  go_loopw [9] (fun vi wr => ∃ i : Nat, i ≤ (marksF s).length ∧ vi = .int .i64 i ∧ BAt wr w.heap.size (movS s ((marksF s).take i) g).data.toList ∧ wr.ownsRow w1.heap.size 3 1 (.slice am (marksF s).length cm) (marksF s).length (pCells (marksF s)) ∧ Below w.heap.size w wr ∧ w2.heap.size ≤ wr.heap.size) (fun vi _ => (marksF s).length - (intOf vi).toNat)
  case atStart => exact ⟨0, Nat.zero_le _, rfl, by rw [List.take_zero, movS_nil]; exact HBA.out, HOW.out, HB1.out.trans (HB2.out.mono (by omega)), Nat.le_refl _⟩
  case round =>
    obtain ⟨i, hi, rfl, hBi, howi, hbi, hsi⟩ := hrel
    have HBI := hide hBi
    have HWI := hide howi
    have HBL := hide hbi
    by_cases him : i < (marksF s).length
    · obtain ⟨gm, rfl, hgB, hgm⟩ := HSH.out (by omega)
      obtain ⟨m, hm⟩ : ∃ m, m = (marksF s)[i]'him := ⟨_, rfl⟩
      have hmm : m ∈ marksF s := by rw [hm]; exact List.getElem_mem him
      obtain ⟨m1, m2, m3⟩ := HIN.out m hmm
      have x1 : wr.cell? ⟨gm, i, none⟩ = some (.int .i64 (m : Int)) := by
        rw [howi.cellAt i (by omega)]
        unfold pCells
        rw [List.getElem?_map, List.getElem?_eq_getElem him, ← hm]; rfl
      obtain ⟨e1, e2⟩ := movS_snoc (s := s) (ms := marksF s) (g := g) him HPW.out (by rw [← hm]; exact m1)
      rw [← hm] at e1 e2
      have hml2 : m < (movS s ((marksF s).take i) g).data.toList.length := by have h1 : (movS s ((marksF s).take i) g).data.toList.length = (movS s ((marksF s).take i) g).size := Array.length_toList; have h2 := movS_size s ((marksF s).take i) g; omega
      have x2 := (hBi m hml2).1
      have x3 := (hBi m hml2).2
      have eb : ((movS s ((marksF s).take i) g).data.toList[m]).toNat = byt s m := by
        rw [← e1]; unfold byt; rw [List.getD_eq_getElem?_getD, List.getElem?_eq_getElem hml2]; rfl
      rw [eb] at x2
      obtain ⟨B, hB⟩ : ∃ B, B = byt s m := ⟨_, rfl⟩
      rw [← hB] at x2 m2 m3 e2
      have j1 : (0 : Int) ≤ (i : Int) := by omega
      have j2 : (i : Int) < ((marksF s).length : Int) := by omega
      have j3 : (0 : Int) ≤ (m : Int) := by omega
      have j4 : (m : Int) < (s.size : Int) := by omega
      have HST := hide (fun c => (hBi.set hml2 c))
      have HE2 := hide e2
      have HOO : Hid (∀ v, (wr.setCell ⟨w.heap.size, m, none⟩ v).ownsRow w1.heap.size 3 1 (.slice (some ⟨gm, 0, none⟩) (marksF s).length cm) (marksF s).length (pCells (marksF s))) := hide (fun v => own_of HWI.out (fun b hb => by
        have : gm = b := by simpa [Value.ownBlock] using hb
        exact heap_setCell_other _ ⟨w.heap.size, m, none⟩ b _ (by show b ≠ w.heap.size; omega)))
      have hg4 : ∀ G, g = G → G (B - 48) < 4 → Hid ((UInt8.ofNat (48 + g (B - 48))).toNat = 48 + G (B - 48)) := fun G hG h4 => hide (by
        rw [hG, UInt8.toNat_ofNat']; exact Nat.mod_eq_of_lt (by omega))
      clear hBi howi hm hmm e1 eb hB e2 hml2
      cases gt with
      | true =>
        have hgg : g = fun _ => 0 := HG.out.symm
        have HU := hg4 _ hgg (by decide)
        have HFN := hide (HST.out (UInt8.ofNat (48 + g (B - 48))))
        rw [HE2.out, HU.out] at HFN
        clear hg4 HST hgg HG
        go_wp2
        go_roundw
        case rel => exact ⟨i + 1, by omega, by go_num, HFN.out, HOO.out _, HBL.out.setCell (Nat.le_refl _) _, by simpa using hsi⟩
        case measure => simp [intOf]; omega
      | false =>
        have hgg : g = rotG r := HG.out.symm
        have HU := hg4 _ hgg (by unfold rotG; exact Nat.mod_lt _ (by omega))
        have HFN := hide (HST.out (UInt8.ofNat (48 + g (B - 48))))
        rw [HE2.out, HU.out] at HFN
        have HQ : Hid (((B : Int) - 48 + (r : Int)) % 4 = ((rotG r (B - 48) : Nat) : Int)) := hide (by unfold rotG; omega)
        have hq4 : rotG r (B - 48) < 4 := by unfold rotG; exact Nat.mod_lt _ (by omega)
        clear hg4 HST hgg HG
        generalize rotG r (B - 48) = q at HQ hq4 HFN
        go_wp2_with fail
        rw [HQ.out]
        go_roundw
        case rel => exact ⟨i + 1, by omega, by go_num, HFN.out, HOO.out _, HBL.out.setCell (Nat.le_refl _) _, by simpa using hsi⟩
        case measure => simp [intOf]; omega
    · have ei : i = (marksF s).length := by omega
      subst ei
      have z1 : ¬ ((marksF s).length : Int) < ((marksF s).length : Int) := by omega
      rw [List.take_length] at hBi
      have hl2 : (movS s (marksF s) g).data.toList.length = s.size := by have h1 : (movS s (marksF s) g).data.toList.length = (movS s (marksF s) g).size := Array.length_toList; rw [h1, movS_size]
      have hback := run_convert_bytes_back (P := Try.prog) wr 67 9 5 ⟨w.heap.size, 0, none⟩ cap (movS s (marksF s) g).data.toList Try.underlying67 Try.underlying5 Try.underlying9 (fun j hj => by rw [Addr.add_lit, Nat.zero_add]; exact (hBi j hj).1)
      rw [hl2] at hback
      clear hBi howi
      go_wp2
      go_ret
      exact ⟨rfl, HBL.out⟩

end Go.Proofs.Ytghomdecppfonaa

/- rows, turned. -/
namespace Go.Proofs.Ytghomdecppfonaa
open Go.RowKit
attribute [local go_sem ↓] Go.wp_at_zero Go.wp_at_succ

set_option maxHeartbeats 2000000 in
set_option maxRecDepth 100000 in
theorem krows_any (w : World) (va vb : Value) (m n : Nat) (F F' : Nat → Nat → Int) (ha : RdRows w va m n F) (hb : RdRows w vb m n F') (he : ∀ i, i < m → rowF F i n = rowF F' i n) (hm : m ≤ 1000) :
    Calls Try.prog 26 #[va, vb] w fun e w' => e = .returned (.bool true) ∧ Below w.heap.size w w' := by
  obtain ⟨a1, c1, g1, AK, CK, rfl, h1, h2⟩ := ha.ex
  obtain ⟨a2, c2, g2, BK, DK, rfl, k1, k2⟩ := hb.ex
  have HH1 := hide h1
  have HH2 := hide h2
  have HK1 := hide k1
  have HK2 := hide k2
  have HE := hide he
  clear ha hb h1 h2 k1 k2 he
  go_enter Try.func26, Try.ntmps26
  go_wp2
  go_loopw [5] (fun vi wr => ∃ k : Nat, k ≤ m ∧ vi = .int .i64 k ∧ Below w.heap.size w wr) (fun vi _ => m - (intOf vi).toNat)
  case atStart => exact ⟨0, Nat.zero_le _, rfl, Below.refl _ _⟩
  case round =>
    obtain ⟨k, hk, rfl, hbr⟩ := hrel
    have HBR := hide hbr
    by_cases hkm : k < m
    · obtain ⟨rfl, hg1⟩ := HH1.out (by omega)
      obtain ⟨rfl, hg2⟩ := HK1.out (by omega)
      obtain ⟨x1, r1, _⟩ := HH2.out k hkm
      obtain ⟨x2, r2, _⟩ := HK2.out k hkm
      have HS : Hid (∀ W, Below w.heap.size w W → Calls Try.prog 24 #[.slice (AK k) n (CK k), .slice (BK k) n (DK k)] W fun e w' => e = .returned (.bool true) ∧ Below W.heap.size W w') := hide (fun W hW => by
        have := ksame_any W _ _ _ _ (r1.below hW) (r2.below hW)
        rwa [HE.out k hkm, show (rowF F' k n == rowF F' k n) = true by simp] at this)
      have y1 := (hbr.cell (p := ⟨g1, k, none⟩) hg1).trans x1
      have y2 := (hbr.cell (p := ⟨g2, k, none⟩) hg2).trans x2
      generalize AK k = ak at y1 HS
      generalize CK k = ck at y1 HS
      generalize BK k = bk at y2 HS
      generalize DK k = dk at y2 HS
      have j3 : (0 : Int) ≤ (k : Int) := by omega
      have j4 : (k : Int) < (m : Int) := by omega
      have q1 : g1 < wr.heap.size := World.block_lt_of_cell? _ _ y1
      have q2 : g2 < wr.heap.size := World.block_lt_of_cell? _ _ y2
      clear x1 x2 r1 r2 hbr
      go_wp2_with fail
      go_region_held3 (fun w' => w'.cell? ⟨g1, k, none⟩ = some (.slice ak n ck) ∧ w'.cell? ⟨g2, k, none⟩ = some (.slice bk n dk)) (go_keep)
        ((go_at_call 24; refine (HS.out _ HBR.out.drew).mono ?_; rintro e wa ⟨rfl, hba⟩; have t1 := (hba.cell (p := ⟨g1, k, none⟩) q1).trans y1; have t2 := (hba.cell (p := ⟨g2, k, none⟩) q2).trans y2))
      rename_i hHeld
      clear hHeld t1 t2
      have HBA : Hid (Below w.heap.size w wa) := hide (HBR.out.drew.trans (hba.mono HBR.out.size))
      clear y1 y2 hba
      go_wp2
      go_roundw
      case rel => exact ⟨k + 1, by omega, by go_num, by first | exact HBA.out | exact below_drewN HBA.out _⟩
      case measure => simp [intOf]; omega
    · have ek : k = m := by omega
      subst ek
      have z1 : ¬ (k : Int) < (k : Int) := by omega
      go_wp2
      go_ret
      exact ⟨rfl, HBR.out⟩

/-- has it been met? -/
def FoundAt (l : List Rt) (t : Rt) (j : Nat) (b : Bool) : Prop := b = true ↔ ∃ j', ∃ h : j' < l.length, j' < j ∧ l[j'] = t
theorem FoundAt.zero (l : List Rt) (t : Rt) : FoundAt l t 0 false := ⟨fun h => (by cases h), fun ⟨_, _, h, _⟩ => (by omega)⟩
theorem FoundAt.keep {l : List Rt} {t : Rt} {j : Nat} (h : FoundAt l t j true) : FoundAt l t (j + 1) true := ⟨fun _ => by
  obtain ⟨j', h1, h2, h3⟩ := h.1 rfl
  exact ⟨j', h1, by omega, h3⟩, fun _ => rfl⟩
theorem FoundAt.next {l : List Rt} {t : Rt} {j : Nat} (h : FoundAt l t j false) (hj : j < l.length) (b : Bool) (hb : b = true ↔ l[j] = t) : FoundAt l t (j + 1) b := by
  unfold FoundAt
  rw [hb]
  constructor
  · intro e; exact ⟨j, hj, by omega, e⟩
  · rintro ⟨j', h1, h2, h3⟩
    by_cases e : j' = j
    · subst e; exact h3
    · have := h.2 ⟨j', h1, by omega, h3⟩; cases this
theorem FoundAt.all {l : List Rt} {t : Rt} {b : Bool} (h : FoundAt l t l.length b) (ht : t ∈ l) : b = true := h.2 (by
  obtain ⟨j', h1, h2⟩ := List.getElem_of_mem ht
  exact ⟨j', h1, h1, h2⟩)

set_option maxHeartbeats 4000000 in
set_option maxRecDepth 100000 in
theorem kturned_any (w : World) (va vb : Value) (rs rs' : List Rt) (r : Nat) (hr : r < 4) (ha : w.ownsRow 0 42 3 va rs.length (rtCells rs)) (hb : w.ownsRow 0 42 3 vb rs'.length (rtCells rs')) (hl : rs'.length = rs.length) (hs : rs.length ≤ 6100) (hd : ∀ x ∈ rs, x.dst < 4)
    (hin : ∀ x ∈ rs, (⟨x.src, (x.dst + r) % 4, x.late⟩ : Rt) ∈ rs') :
    Calls Try.prog 27 #[va, vb, .int .i64 (r : Int)] w fun e w' => e = .returned (.bool true) ∧ Below w.heap.size w w' := by
  obtain ⟨aa, ca, rfl, hsa⟩ := own_shape ha
  obtain ⟨ab, cb, rfl, hsb⟩ := own_shape hb
  have HA := hide ha
  have HB := hide hb
  have HSA := hide hsa
  have HSB := hide hsb
  have HI := hide hin
  have HD := hide hd
  have HL := hide hl
  have q0 : ((rs.length : Int) != (rs'.length : Int)) = false := by rw [hl]; simp
  clear ha hb hsa hsb hin hd
  obtain ⟨M, hM⟩ : ∃ M, M = rs'.length := ⟨_, rfl⟩
  rw [← hM] at HB q0 HL hl ⊢
  have HMM := hide hM
  have hM6 : M ≤ 6100 := by omega
  clear hM hl
  go_enter Try.func27, Try.ntmps27
  go_wp2
  go_loopw [7] (fun vi wr => ∃ k : Nat, k ≤ rs.length ∧ vi = .int .i64 k ∧ Below w.heap.size w wr) (fun vi _ => rs.length - (intOf vi).toNat)
  case atStart => exact ⟨0, Nat.zero_le _, rfl, Below.refl _ _⟩
  case round =>
    obtain ⟨k, hk, rfl, hbr⟩ := hrel
    have HBR := hide hbr
    by_cases hkm : k < rs.length
    · obtain ⟨ga, rfl, _, hga⟩ := HSA.out (by omega)
      obtain ⟨x, hx⟩ : ∃ x, x = rs[k]'hkm := ⟨_, rfl⟩
      have hc : ∀ i, i < 3 → wr.cell? ⟨ga, k * 3 + i, none⟩ = x.cells[i]? := fun i hi => by
        rw [hbr.cell (p := ⟨ga, k * 3 + i, none⟩) hga, HA.out.cellAt (k * 3 + i) (by omega)]
        have e := flat_get Rt.cells 3 rt_len rs k i hkm hi
        rw [← hx] at e
        exact e
      have x0 : wr.cell? ⟨ga, k * 3, none⟩ = some (.int .i64 (x.src : Int)) := hc 0 (by omega)
      have x1 : wr.cell? ⟨ga, k * 3 + 1, none⟩ = some (.int .i64 (x.dst : Int)) := hc 1 (by omega)
      have x2 : wr.cell? ⟨ga, k * 3 + 2, none⟩ = some (.bool x.late) := hc 2 (by omega)
      have hxm : x ∈ rs := by rw [hx]; exact List.getElem_mem hkm
      have hxd := HD.out x hxm
      have HXI := hide (HI.out x hxm)
      have HQ : Hid (((x.dst : Int) + (r : Int)) % 4 = (((x.dst + r) % 4 : Nat) : Int)) := hide (by omega)
      generalize x.src = xs at *
      generalize x.dst = xd at *
      generalize x.late = xl at *
      have j3 : (0 : Int) ≤ (k : Int) := by omega
      have j4 : (k : Int) < (rs.length : Int) := by omega
      clear hc hx hxm hbr
      go_wp2_with fail
      rw [HQ.out]
      generalize (xd + r) % 4 = xq at HXI
      obtain ⟨bx, hbx⟩ : ∃ bx, bx = wr.alloc (.cells #[.int .i64 (xs : Int), .int .i64 (xq : Int), .bool xl] 42) := ⟨_, rfl⟩
      have HBX : Hid (Below wr.heap.size wr bx) := hide (by rw [hbx]; exact (Below.refl _ _).alloc (Nat.le_refl _) _)
      have HSZ : Hid (wr.heap.size < bx.heap.size) := hide (by rw [hbx]; simp)
      have HBC : Hid (bx.heap[wr.heap.size]? = some (.cells #[.int .i64 (xs : Int), .int .i64 (xq : Int), .bool xl] 42)) := hide (by rw [hbx]; exact heap_alloc_new wr _)
      rw [← hbx]
      clear hbx HQ x0 x1 x2
      obtain ⟨bk, hbk⟩ : ∃ bk, bk = wr.heap.size := ⟨_, rfl⟩
      rw [← hbk] at HBC HSZ HBX ⊢
      have HWX : Hid (Below w.heap.size w bx) := hide (HBR.out.trans (HBX.out.mono (by rw [hbk]; exact HBR.out.size)))
      clear hbk HBX
      go_loopw [9, 10] (fun vf vj wx => ∃ (j : Nat) (fb : Bool), j ≤ M ∧ vf = .bool fb ∧ vj = .int .i64 j ∧ Below bx.heap.size bx wx ∧ FoundAt rs' ⟨xs, xq, xl⟩ j fb) (fun _ vj _ => M - (intOf vj).toNat)
      case atStart => exact ⟨0, false, Nat.zero_le _, rfl, rfl, by first | exact Below.refl _ _ | exact below_drewN (Below.refl _ _) _, FoundAt.zero _ _⟩
      case round =>
        obtain ⟨j, fb, hj, rfl, rfl, hbj, hfb⟩ := hrel
        have HBJ := hide hbj
        have HF := hide hfb
        clear hfb
        by_cases hjm : j < M
        · have z1 : (j : Int) < (M : Int) := by omega
          cases fb with
          | true =>
            have HF2 := hide HF.out.keep
            clear HF
            go_wp2_with fail
            go_quiet (fail)
            go_wp2
            go_roundw
            case rel => exact ⟨j + 1, true, by omega, rfl, by go_num, by first | exact HBJ.out | exact below_drewN HBJ.out _, HF2.out⟩
            case measure => simp [intOf]; omega
          | false =>
            obtain ⟨gb, rfl, _, hgb⟩ := HSB.out (by rw [← HMM.out]; omega)
            have hjr : j < rs'.length := by rw [← HMM.out]; exact hjm
            obtain ⟨y, hy⟩ : ∃ y, y = rs'[j]'hjr := ⟨_, rfl⟩
            have hbw : Below w.heap.size w wr := HWX.out.trans (hbj.mono HWX.out.size)
            have hc : ∀ i, i < 3 → wr.cell? ⟨gb, j * 3 + i, none⟩ = y.cells[i]? := fun i hi => by
              rw [hbw.cell (p := ⟨gb, j * 3 + i, none⟩) hgb, HB.out.cellAt (j * 3 + i) (by omega)]
              have e := flat_get Rt.cells 3 rt_len rs' j i hjr hi
              rw [← hy] at e
              exact e
            have y0 : wr.cell? ⟨gb, j * 3, none⟩ = some (.int .i64 (y.src : Int)) := hc 0 (by omega)
            have y1 : wr.cell? ⟨gb, j * 3 + 1, none⟩ = some (.int .i64 (y.dst : Int)) := hc 1 (by omega)
            have y2 : wr.cell? ⟨gb, j * 3 + 2, none⟩ = some (.bool y.late) := hc 2 (by omega)
            have hbn : wr.heap[bk]? = some (.cells #[.int .i64 (xs : Int), .int .i64 (xq : Int), .bool xl] 42) := (hbj.block bk HSZ.out).trans HBC.out
            have b0 := cell_of_row wr bk 0 _ _ _ hbn
            have b1 := cell_of_row wr bk 1 _ _ _ hbn
            have b2 := cell_of_row wr bk 2 _ _ _ hbn
            have HNX := hide (HF.out.next hjr)
            rw [← hy] at HNX
            have j3' : (0 : Int) ≤ (j : Int) := by omega
            obtain ⟨ys, yd, yl⟩ := y
            simp only at y0 y1 y2
            simp only [Rt.mk.injEq] at HNX
            clear hc hy hbn hbj HF hbw
            by_cases c1 : ys = xs
            · have d1 : ((ys : Int) == (xs : Int)) = true := by rw [c1]; simp
              by_cases c2 : yd = xq
              · have d2 : ((yd : Int) == (xq : Int)) = true := by rw [c2]; simp
                by_cases c3 : yl = xl
                · have d3 : (yl == xl) = true := by rw [c3]; simp
                  have HN2 := hide (HNX.out true ⟨fun _ => ⟨c1, c2, c3⟩, fun _ => rfl⟩)
                  clear c1 c2 c3 HNX
                  go_wp2_with fail
                  go_quiet (fail)
                  go_wp2
                  go_roundw
                  case rel => exact ⟨j + 1, true, by omega, by simp_all, by go_num, by first | exact HBJ.out | exact below_drewN HBJ.out _, HN2.out⟩
                  case measure => simp [intOf]; omega
                · have d3 : (yl == xl) = false := by rw [beq_eq_false_iff_ne]; exact c3
                  have HN2 := hide (HNX.out false ⟨fun h => (by cases h), fun h => absurd h.2.2 c3⟩)
                  clear c1 c2 c3 HNX
                  go_wp2_with fail
                  go_quiet (fail)
                  go_wp2
                  go_roundw
                  case rel => exact ⟨j + 1, false, by omega, by simp_all, by go_num, by first | exact HBJ.out | exact below_drewN HBJ.out _, HN2.out⟩
                  case measure => simp [intOf]; omega
              · have d2 : ((yd : Int) == (xq : Int)) = false := by rw [beq_eq_false_iff_ne]; omega
                have HN2 := hide (HNX.out false ⟨fun h => (by cases h), fun h => absurd h.2.1 c2⟩)
                clear c1 c2 HNX
                go_wp2_with fail
                go_quiet (fail)
                go_wp2
                go_roundw
                case rel => exact ⟨j + 1, false, by omega, by simp_all, by go_num, by first | exact HBJ.out | exact below_drewN HBJ.out _, HN2.out⟩
                case measure => simp [intOf]; omega
            · have d1 : ((ys : Int) == (xs : Int)) = false := by rw [beq_eq_false_iff_ne]; omega
              have HN2 := hide (HNX.out false ⟨fun h => (by cases h), fun h => absurd h.1 c1⟩)
              clear c1 HNX
              go_wp2_with fail
              go_quiet (fail)
              go_wp2
              go_roundw
              case rel => exact ⟨j + 1, false, by omega, by simp_all, by go_num, by first | exact HBJ.out | exact below_drewN HBJ.out _, HN2.out⟩
              case measure => simp [intOf]; omega
        · have ej : j = M := by omega
          subst ej
          have z1 : ¬ (j : Int) < (j : Int) := by omega
          have hft : fb = true := FoundAt.all (by rw [← HMM.out]; exact HF.out) HXI.out
          subst hft
          have HWJ : Hid (Below w.heap.size w wr) := hide (HWX.out.trans (hbj.mono HWX.out.size))
          clear HF hbj
          go_wp2
          go_roundw
          case rel => exact ⟨k + 1, by omega, by go_num, by first | exact HWJ.out | exact below_drewN HWJ.out _⟩
          case measure => simp [intOf]; omega
    · have ek : k = rs.length := by omega
      subst ek
      have z1 : ¬ (rs.length : Int) < (rs.length : Int) := by omega
      go_wp2
      go_ret
      exact ⟨rfl, HBR.out⟩

end Go.Proofs.Ytghomdecppfonaa

/- Moved. -/
namespace Go.Proofs.Ytghomdecppfonaa
open Go.RowKit
attribute [local go_sem ↓] Go.wp_at_zero Go.wp_at_succ

theorem str_of {s : ByteArray} {L : List Dl} (hsp : Spell (toks s) L 0) (h0 : (textF s).1 = 0) {ins : List (List Int)} {n B : Nat} {w' : World} {v : Value} (hn : n ≤ 200) (h : StrQ s ins (n : Int) B w' v) : RdRows w' v (eqL L).length n (sol (toks s) L ins) := by
  obtain ⟨L', hG, hR, _⟩ := good_text h0
  obtain ⟨e1, e2⟩ := spell_same (toks_F s) hG.sp hsp
  have := (strq_in hn h).1 h0 L' hG hR
  rw [e1, sol_same e1 e2] at this
  exact this
theorem lk_of {s : ByteArray} {L : List Dl} (hsp : Spell (toks s) L 0) (h0 : (textF s).1 = 0) {B : Nat} {w' : World} {v : Value} (h : LkQ s B w' v) : w'.ownsRow 0 42 3 v (routesR (toks s) L).length (rtCells (routesR (toks s) L)) := by
  obtain ⟨L', hG, _, ho⟩ := good_text h0
  obtain ⟨e1, _⟩ := spell_same (toks_F s) hG.sp hsp
  unfold LkQ at h
  rw [if_pos h0] at h
  have := h L' hG ho
  rw [routes_eqs (toks s) e1] at this
  exact own_weak this (Nat.zero_le _)

theorem read_seven {ts : List Tk} {L : List Dl} (h : (readR ts L).1 = 0 ∨ (readR ts L).1 = 7) : manyR ts L = none ∧ namesR ts L = none ∧ typesR ts L = none ∧ cycR ts L = none := by
  unfold readR at h
  cases h1 : manyR ts L with
  | some a => rw [h1] at h; rcases h with h | h <;> cases h
  | none =>
    cases h2 : namesR ts L with
    | some a => rw [h1, h2] at h; rcases h with h | h <;> cases h
    | none =>
      cases h3 : typesR ts L with
      | some a => rw [h1, h2, h3] at h; rcases h with h | h <;> cases h
      | none =>
        cases h4 : cycR ts L with
        | some a => rw [h1, h2, h3, h4] at h; rcases h with h | h <;> cases h
        | none => exact ⟨rfl, rfl, rfl, rfl⟩

theorem routes_few {ts : List Tk} {L : List Dl} (h : (eqL L).length ≤ 12) : (routesR ts L).length ≤ 6100 := by
  have key : ∀ (l : List Dl) (b : Nat), (routesFrom ts L b l).length ≤ l.length * 4 := by
    intro l
    induction l with
    | nil => intro b; simp [routesFrom]
    | cons x r ih =>
      intro b
      simp only [routesFrom, List.length_append, List.length_cons]
      have := routeTo_len ts L b x 4
      have := ih (b + 1)
      omega
  have := key (eqL L) 0
  unfold routesR
  omega

/-- what is known of a text that is moved. -/
structure MovK (s on one : ByteArray) (r : Nat) (L : List Dl) (ins : List (List Int)) : Prop where
  sp : Spell (toks s) L 0
  sp1 : Spell (toks on) L 0
  sp2 : Spell (toks one) L 0
  t1 : textF on = textF s
  t2 : textF one = (0, 0)
  few : (eqL L).length ≤ 12
  s1 : ∀ j n, sol (toks on) L ins j n = sol (toks s) L ins j n
  s2 : ∀ j n, sol (toks one) L ins j n = sol (toks s) L ins j n
  r2 : routesR (toks one) L = []
  rl : (routesR (toks on) L).length = (routesR (toks s) L).length
  rm : ∀ x ∈ routesR (toks s) L, x.dst < 4 ∧ (⟨x.src, (x.dst + r) % 4, x.late⟩ : Rt) ∈ routesR (toks on) L

theorem movK {s : ByteArray} (h : (textF s).1 = 0 ∨ (textF s).1 = 7) (r : Nat) (ins : List (List Int)) : s.size ≤ 1500 ∧ ∃ L, MovK s (movS s (marksF s) (rotG r)) (movS s (marksF s) (fun _ => 0)) r L ins := by
  have hs := text_small (s := s) (by omega)
  refine ⟨hs, ?_⟩
  rcases text_read s hs with ⟨k, _, ht, _⟩ | ⟨L, hsp, hA, ht, _⟩
  · rw [ht] at h; rcases h with h | h <;> cases h
  · rw [ht] at h
    obtain ⟨m1, m2, m3, m4⟩ := read_seven h
    have H1 := mov_tokens hsp (g := rotG r) (fun p hp => rot_lt r p hp)
    have H2 := mov_tokens hsp (g := fun _ => 0) (fun p hp => by omega)
    have t1 := mov_text H1 hA (by rw [movS_size]; exact hs)
    have t2 := mov_text H2 hA (by rw [movS_size]; exact hs)
    rw [H1.read (rot_inj r) (rot_lt r) (rot_sur r), ← ht] at t1
    have hg := H2.gather
    have t3 : readR (toks (movS s (marksF s) (fun _ => 0))) L = (0, 0) := by
      unfold readR
      rw [H2.many, H2.names, H2.types, H2.cyc, m1, m2, m3, m4, hg.2]
    have hmany := less_none m1
    have few : (eqL L).length ≤ 12 := by
      have := hmany.1
      rw [Option.map_eq_none_iff, List.getElem?_eq_none_iff] at this
      exact this
    exact ⟨L, ⟨hsp, H1.spell, H2.spell, t1, t2.trans t3, few, H1.sol ins, H2.sol ins, hg.1, rot_len H1, fun x hx => ⟨((route_mem _ _ x).1 hx).choose_spec.2.1, rot_links H1 x hx⟩⟩⟩

set_option maxHeartbeats 8000000 in
set_option maxRecDepth 100000 in
theorem moved_law (s : ByteArray) (hs : s.size ≤ maxLen) (w : World) (A : Option Addr) (C : Nat) (ins : List (List Int)) (AS : Nat → Option Addr) (CS : Nat → Nat) (hA : ArgL w A C ins AS CS) (n0 r0 : Int) (hn0 : -9223372036854775808 ≤ n0) (hn0' : n0 ≤ 9223372036854775807) (hr0 : -9223372036854775808 ≤ r0) (hr0' : r0 ≤ 9223372036854775807) :
    Calls Try.prog 8 #[.string s, .slice A ins.length C, .int .i64 n0, .int .i64 r0] w fun e w' => e = .returned (.bool true) ∧ Below w.heap.size w w' := by
  have HCK := hide (fun W => check_all s W hs)
  have HA := hide hA
  by_cases he : (textF s).1 = 0 ∨ (textF s).1 = 7
  case neg =>
    have q1 : (((textF s).1 : Int) != 0) = true := by rw [bne_iff_ne]; omega
    have q2 : (((textF s).1 : Int) != 7) = true := by rw [bne_iff_ne]; omega
    generalize (textF s).1 = er at HCK q1 q2
    generalize (textF s).2 = ea at HCK
    clear he hA hn0 hn0' hr0 hr0' hs
    go_enter Try.func8, Try.ntmps8
    go_wp2_with fail
    refine (answers_any _).mono ?_
    rintro e w1 ⟨rfl, hb1⟩
    have HB1 := hide hb1
    clear hb1
    go_wp2_with fail
    refine (HCK.out w1).mono ?_
    rintro e w2 ⟨rfl, hb2⟩
    have HB2 := hide (HB1.out.trans (hb2.mono HB1.out.size))
    clear hb2
    go_wp2
    go_ret
    exact ⟨rfl, HB2.out⟩
  case pos =>
    have hr4 := pickN_lt r0 (m := 4) (by omega)
    obtain ⟨hsz, L, hK⟩ := movK he (pickN r0 4) ins
    have H1 := hide (fun W => pick_any n0 201 W hn0 hn0' (by omega) (by omega))
    have hlt := pickN_lt n0 (m := 201) (by omega)
    have H2 := hide (fun W => pick_any r0 4 W hr0 hr0' (by omega) (by omega))
    have H3 := hide (fun W => moved_any s W hsz hK.sp (pickN r0 4) hr4 false)
    have H4 := hide (fun W => moved_any s W hsz hK.sp 0 (by omega) true)
    generalize pickN n0 201 = n at H1 hlt
    generalize pickN r0 4 = r at H2 H3 hK hr4
    simp only [Bool.false_eq_true, if_false, if_true] at H3 H4
    have hso : ∀ g, (movS s (marksF s) g).size ≤ maxLen := fun g => by rw [movS_size]; unfold maxLen; omega
    have hon := hso (rotG r)
    have hone := hso (fun _ => 0)
    generalize movS s (marksF s) (rotG r) = on at H3 hK hon
    generalize movS s (marksF s) (fun _ => 0) = one at H4 hK hone
    have HC1 := hide (fun W => check_all on W hon)
    have HC2 := hide (fun W => check_all one W hone)
    rw [hK.t1] at HC1
    rw [hK.t2] at HC2
    have HS2 := hide (fun W v h => streams_any one hone W v ins h (n : Int))
    rw [strR_in (by omega), hK.t2] at HS2
    have HL2 := hide (fun W => plinks_any one hone W)
    rw [hK.t2] at HL2
    have HSE := hide (fun W => seats_any s W hsz)
    rw [seats_text hK.sp, List.length_map] at HSE
    have HS0 := hide (fun W v h => streams_any s hs W v ins h (n : Int))
    have HS1 := hide (fun W v h => streams_any on hon W v ins h (n : Int))
    rw [strR_in (by omega)] at HS0
    rw [strR_in (by omega), hK.t1] at HS1
    have HL0 := hide (fun W => plinks_any s hs W)
    have HL1 := hide (fun W => plinks_any on hon W)
    rw [hK.t1] at HL1
    have HK := hide hK
    have hfew := hK.few
    have HQ2 : Hid (∀ B w' v, StrQ one ins (n : Int) B w' v → RdRows w' v (eqL L).length n (sol (toks one) L ins)) := hide (fun B w' v h => str_of HK.out.sp2 (by rw [HK.out.t2]) (by omega) h)
    have HR2 : Hid (∀ B w' v, LkQ one B w' v → w'.ownsRow 0 42 3 v (routesR (toks one) L).length (rtCells (routesR (toks one) L))) := hide (fun B w' v h => lk_of HK.out.sp2 (by rw [HK.out.t2]) h)
    have HQ0 : Hid ((textF s).1 = 0 → ∀ B w' v, StrQ s ins (n : Int) B w' v → RdRows w' v (eqL L).length n (sol (toks s) L ins)) := hide (fun h0 B w' v h => str_of HK.out.sp h0 (by omega) h)
    have HQ1 : Hid ((textF s).1 = 0 → ∀ B w' v, StrQ on ins (n : Int) B w' v → RdRows w' v (eqL L).length n (sol (toks on) L ins)) := hide (fun h0 B w' v h => str_of HK.out.sp1 (by rw [HK.out.t1]; exact h0) (by omega) h)
    have HR0 : Hid ((textF s).1 = 0 → ∀ B w' v, LkQ s B w' v → w'.ownsRow 0 42 3 v (routesR (toks s) L).length (rtCells (routesR (toks s) L))) := hide (fun h0 B w' v h => lk_of HK.out.sp h0 h)
    have HR1 : Hid ((textF s).1 = 0 → ∀ B w' v, LkQ on B w' v → w'.ownsRow 0 42 3 v (routesR (toks on) L).length (rtCells (routesR (toks on) L))) := hide (fun h0 B w' v h => lk_of HK.out.sp1 (by rw [HK.out.t1]; exact h0) h)
    have hcs : ((textF s).1 = 0) ∨ ((((textF s).1 : Int) != 0) = true ∧ (((textF s).1 : Int) != 7) = false) := by
      rcases he with h | h
      · exact .inl h
      · right; rw [h]; exact ⟨rfl, rfl⟩
    generalize (textF s).1 = er at *
    generalize (textF s).2 = ea at *
    clear hA hn0 hn0' hr0 hr0' hs hK he hon hone hso hsz
    have q0 : ((er : Int) != 0) = false ∨ (((er : Int) != 0) = true ∧ ((er : Int) != 7) = false) := by
      rcases hcs with h | h
      · left; rw [h]; rfl
      · exact .inr h
    go_enter Try.func8, Try.ntmps8
    go_wp2_with fail
    refine (answers_any _).mono ?_
    rintro e w1 ⟨rfl, hb1⟩
    have HB1 := hide hb1
    clear hb1
    go_wp2_with fail
    refine (HCK.out w1).mono ?_
    rintro e w2 ⟨rfl, hb2⟩
    have HB2 := hide (HB1.out.trans (hb2.mono HB1.out.size))
    clear hb2 HB1
    have HCS := hide hcs
    clear hcs
    rcases q0 with q1 | ⟨q1, q2⟩
    all_goals
      go_wp2_with fail
      refine (H1.out _).mono ?_
      rintro e w3 ⟨rfl, rfl⟩
      go_wp2_with fail
      refine (H2.out _).mono ?_
      rintro e w3 ⟨rfl, rfl⟩
      go_wp2_with fail
      refine (H3.out _).mono ?_
      rintro e w3 ⟨rfl, hb3⟩
      have HB3 := hide (HB2.out.trans (hb3.mono HB2.out.size))
      clear hb3
      go_wp2_with fail
      refine (H4.out _).mono ?_
      rintro e w4 ⟨rfl, hb4⟩
      have HB4 := hide (HB3.out.trans (hb4.mono HB3.out.size))
      clear hb4
      go_wp2_with fail
      refine (HC1.out _).mono ?_
      rintro e w5 ⟨rfl, hb5⟩
      have HB5 := hide (HB4.out.trans (hb5.mono HB4.out.size))
      clear hb5
      go_wp2_with fail
      refine (HC2.out _).mono ?_
      rintro e w6 ⟨rfl, hb6⟩
      have HB6 := hide (HB5.out.trans (hb6.mono HB5.out.size))
      clear hb6
      go_wp2_with fail
      refine (HS2.out _ _ (HA.out.below HB6.out).ls).mono ?_
      rintro e w7 ⟨vc, rfl, hq7, hb7⟩
      have HB7 := hide (HB6.out.trans (hb7.mono HB6.out.size))
      have HRD2 := hide (HQ2.out _ _ _ hq7)
      clear hb7 hq7
      obtain ⟨a7, c7, g7, AK7, CK7, rfl, _, _⟩ := HRD2.out.ex
      go_wp2_with fail
      refine (HL2.out _).mono ?_
      rintro e w8 ⟨vl, rfl, hq8, hb8⟩
      have HB8 := hide (HB7.out.trans (hb8.mono HB7.out.size))
      have HRD3 := hide (HRD2.out.below hb8)
      have hl8 := HR2.out _ _ _ hq8
      rw [HK.out.r2] at hl8
      obtain ⟨a8, c8, rfl, _⟩ := own_shape hl8
      clear hb8 hq8 hl8 HRD2
      go_wp2_with fail
      refine (HSE.out _).mono ?_
      rintro e w9 ⟨vw, rfl, how, hb9⟩
      obtain ⟨a9, c9, rfl, _⟩ := own_shape how
      have HB9 := hide (HB8.out.trans (hb9.mono HB8.out.size))
      have HRD4 := hide (HRD3.out.below hb9)
      clear hb9 how HRD3
    · have her : er = 0 := by
        rcases HCS.out with h | ⟨h, _⟩
        · exact h
        · rw [q1] at h; cases h
      have HER := hide her
      clear her
      go_wp2_with fail
      refine (HS0.out _ _ (HA.out.below HB9.out).ls).mono ?_
      rintro e w10 ⟨va, rfl, hqa, hba⟩
      have HB10 := hide (HB9.out.trans (hba.mono HB9.out.size))
      have HRA := hide (HQ0.out HER.out _ _ _ hqa)
      have HRD5 := hide (HRD4.out.below hba)
      clear hba hqa HRD4
      obtain ⟨ax, cx, gx, AX, CX, rfl, _, _⟩ := HRA.out.ex
      go_wp2_with fail
      refine (HS1.out _ _ (HA.out.below HB10.out).ls).mono ?_
      rintro e w11 ⟨vb, rfl, hqb, hbb⟩
      have HB11 := hide (HB10.out.trans (hbb.mono HB10.out.size))
      have HRB := hide (HQ1.out HER.out _ _ _ hqb)
      have HRA2 := hide (HRA.out.below hbb)
      have HRD6 := hide (HRD5.out.below hbb)
      clear hbb hqb HRA HRD5
      obtain ⟨ay, cy, gy, AY, CY, rfl, _, _⟩ := HRB.out.ex
      go_wp2_with fail
      refine (HL0.out _).mono ?_
      rintro e w12 ⟨vv, rfl, hqv, hbv⟩
      have HB12 := hide (HB11.out.trans (hbv.mono HB11.out.size))
      have HLV := hide (HR0.out HER.out _ _ _ hqv)
      have HRA3 := hide (HRA2.out.below hbv)
      have HRB3 := hide (HRB.out.below hbv)
      have HRD7 := hide (HRD6.out.below hbv)
      clear hbv hqv HRA2 HRB HRD6
      obtain ⟨av, cv, rfl, _⟩ := own_shape HLV.out
      go_wp2_with fail
      refine (HL1.out _).mono ?_
      rintro e w13 ⟨vu, rfl, hqu, hbu⟩
      have HB13 := hide (HB12.out.trans (hbu.mono HB12.out.size))
      have HLU := hide (HR1.out HER.out _ _ _ hqu)
      have HLV2 := hide (bel_own HLV.out hbu)
      have HRA4 := hide (HRA3.out.below hbu)
      have HRB4 := hide (HRB3.out.below hbu)
      have HRD8 := hide (HRD7.out.below hbu)
      clear hbu hqu HRA3 HRB3 HRD7 HLV
      obtain ⟨au, cu, rfl, _⟩ := own_shape HLU.out
      go_wp2_with fail
      refine (krows_any _ _ _ (eqL L).length n _ _ HRA4.out HRB4.out (fun i _ => by unfold rowF; exact List.map_congr_left (fun k _ => (HK.out.s1 i k).symm)) (by omega)).mono ?_
      rintro e w14 ⟨rfl, hb14⟩
      have HB14 := hide (HB13.out.trans (hb14.mono HB13.out.size))
      have HRA5 := hide (HRA4.out.below hb14)
      have HRD9 := hide (HRD8.out.below hb14)
      have HLV3 := hide (bel_own HLV2.out hb14)
      have HLU3 := hide (bel_own HLU.out hb14)
      clear hb14 HRA4 HRB4 HRD8 HLV2 HLU
      go_wp2_with fail
      refine (krows_any _ _ _ (eqL L).length n _ _ HRA5.out HRD9.out (fun i _ => by unfold rowF; exact List.map_congr_left (fun k _ => (HK.out.s2 i k).symm)) (by omega)).mono ?_
      rintro e w15 ⟨rfl, hb15⟩
      have HB15 := hide (HB14.out.trans (hb15.mono HB14.out.size))
      have HLV4 := hide (bel_own HLV3.out hb15)
      have HLU4 := hide (bel_own HLU3.out hb15)
      clear hb15 HRA5 HRD9 HLV3 HLU3
      go_wp2_with fail
      refine (kturned_any _ _ _ (routesR (toks s) L) (routesR (toks on) L) r hr4 HLV4.out HLU4.out HK.out.rl (routes_few HK.out.few) (fun x hx => (HK.out.rm x hx).1) (fun x hx => (HK.out.rm x hx).2)).mono ?_
      rintro e w16 ⟨rfl, hb16⟩
      have HB16 := hide (HB15.out.trans (hb16.mono HB15.out.size))
      clear hb16
      go_wp2
      go_ret
      exact ⟨rfl, by first | exact HB16.out | exact below_drewN HB16.out _⟩
    · go_wp2
      go_ret
      exact ⟨rfl, by first | exact HB9.out | exact below_drewN HB9.out _⟩

end Go.Proofs.Ytghomdecppfonaa
