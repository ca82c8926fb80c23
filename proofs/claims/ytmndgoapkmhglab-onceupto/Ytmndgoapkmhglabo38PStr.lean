import Derived.Test.Ytmndgoapkmhglabo07PlyP
import Derived.Test.Ytmndgoapkmhglabo23JudI
import Derived.Test.Ytmndgoapkmhglabo28JudM
import Derived.Test.Ytmndgoapkmhglabo29LawP
import Derived.Test.Ytmndgoapkmhglabo34HeldP
import Derived.Test.Ytmndgoapkmhglabo35OpenT
import Derived.Test.Ytmndgoapkmhglabo36OrdD
import Derived.Test.Ytmndgoapkmhglabo37SvD
namespace Go.Proofs.Ytmndgoapkmhglab
open Go.RowKit
attribute [local go_sem ↓] Go.wp_at_zero Go.wp_at_succ
theorem tCells_i (T : List Nat) : tCells T = iCells (T.map fun (t : Nat) => (t : Int)) := by simp [tCells, iCells]
structure SS (w wr : World) (ds : List Dc) (vE vT : Value) (T : List Nat) (rg n : Nat) (R : Nat → Nat) (F : Nat → Nat → Int) : Prop where
  bel : Below w.heap.size w wr
  eqs : wr.ownsRow w.heap.size 126 7 vE (eqsF ds).length (dcCells (eqsF ds))
  ord : wr.ownsRow w.heap.size 3 1 vT T.length (tCells T)
  mat : MatI wr rg (eqsF ds).length n R F
  rgl : rg < wr.heap.size
  ge : w.heap.size ≤ rg ∧ ∀ i, i < (eqsF ds).length → w.heap.size ≤ R i
  apart : ∀ i, i < (eqsF ds).length → vE.ownBlock ≠ some (R i) ∧ vT.ownBlock ≠ some (R i)
theorem SS.below {w wr w' : World} {ds : List Dc} {vE vT : Value} {T : List Nat} {rg n : Nat} {R : Nat → Nat} {F : Nat → Nat → Int} (h : SS w wr ds vE vT T rg n R F) (hb : Below wr.heap.size wr w') : SS w w' ds vE vT T rg n R F :=
  ⟨h.bel.trans (hb.mono h.bel.size), own_eqb h.eqs (fun b e => hb.block b (h.eqs.lt b e).2), own_eqb h.ord (fun b e => hb.block b (h.ord.lt b e).2), h.mat.below hb, Nat.lt_of_lt_of_le h.rgl hb.size, h.ge, h.apart⟩
theorem SS.alloc {w wr : World} {ds : List Dc} {vE vT : Value} {T : List Nat} {rg n : Nat} {R : Nat → Nat} {F : Nat → Nat → Int} (h : SS w wr ds vE vT T rg n R F) (o : Obj) : SS w (wr.alloc o) ds vE vT T rg n R F := h.below ((Below.refl _ _).alloc (Nat.le_refl _) o)
theorem SS.drew {w wr : World} {ds : List Dc} {vE vT : Value} {T : List Nat} {rg n : Nat} {R : Nat → Nat} {F : Nat → Nat → Int} (h : SS w wr ds vE vT T rg n R F) : SS w wr.drew ds vE vT T rg n R F := h.below ((Below.refl _ _).drew)
theorem SS.set {w wr : World} {ds : List Dc} {vE vT : Value} {T : List Nat} {rg n : Nat} {R : Nat → Nat} {F : Nat → Nat → Int} (h : SS w wr ds vE vT T rg n R F) {i : Nat} (hi : i < (eqsF ds).length) (k : Nat) (v : Int) : SS w (wr.setCell ⟨R i, k, none⟩ (.int .i64 v)) ds vE vT T rg n R (fun a b => if a = i ∧ b = k then v else F a b) :=
  ⟨h.bel.setCell (h.ge.2 i hi) _, own_eqb h.eqs (fun b e => heap_setCell_other wr ⟨R i, k, none⟩ b _ (fun e2 => (h.apart i hi).1 (by rw [e, e2]))), own_eqb h.ord (fun b e => heap_setCell_other wr ⟨R i, k, none⟩ b _ (fun e2 => (h.apart i hi).2 (by rw [e, e2]))), h.mat.set hi k v, by simpa using h.rgl, h.ge, h.apart⟩
set_option maxHeartbeats 4000000 in
set_option maxRecDepth 100000 in
theorem sof_any (w : World) (q : Nat) (ds : List Dc) (ns : List Nd) (vd vn vX : Value) (ins : List (List Int)) (NV : Nat → Nat → Int) (h : ProgAt w q ds ns vd vn) (hwf : ProgWf ds ns) (hX : LsAt w vX ins) (hM : Meant ds ns ins NV) (hn16 : ds.length ≤ 16) (rank : Nat → Nat) (hR : Ranked ds (markAll ds ns 0 ds noM) rank)
    (n : Nat) (hn : n ≤ 200) (S : Nat → Nat → Int) (hS : ∀ (j : Nat) (d : Dc) (k : Nat), (eqsF ds)[j]? = some d → NV k d.root = S j k) :
    Calls Try.prog 39 #[.pointer (some ⟨q, 0, none⟩), vX, .int .i64 (n : Int)] w fun e w' => ∃ v, e = .returned v ∧ Outs w.heap.size w' v (eqsF ds).length n S ∧ Below w.heap.size w w' := by
  have hel : (eqsF ds).length ≤ 16 := Nat.le_trans (List.length_filter_le _ _) hn16
  have hnl := hwf.nl
  have hm1 := run_make_row' (P := Try.prog) 31 38 (.slice none 0 0) 24 Try.underlying31 Try.infoIntsE rfl .i64 .i64 (eqsF ds).length (by omega) (by omega)
  have hm2 := run_make_row' (P := Try.prog) 38 3 (.int .i64 0) 8 Try.underlying38 Try.infoIntO rfl .i64 .i64 n (by omega) (by omega)
  have hm3 := run_make_row' (P := Try.prog) 38 3 (.int .i64 0) 8 Try.underlying38 Try.infoIntO rfl .i64 .i64 ns.length (by omega) (by omega)
  have HE := hide (equations_any w q ds ns vd vn h (by omega))
  have HOR := hide (fun W hW => order_any W q ds ns vd vn hW hwf (fun m hm hk => (hM.decl m hm hk).1) hn16 rank hR)
  have HP := hide h
  have HX := hide hX
  have HWF := hide hwf
  have HM := hide hM
  have HS := hide hS
  clear h hX hM hS hR hwf
  go_enter Try.func39, Try.ntmps39
  go_wp2_with fail
  refine HE.out.mono ?_
  rintro e w1 ⟨vE, rfl, hE1, hb1⟩
  obtain ⟨aE, cE, rfl, hshE⟩ := own_shape hE1
  have HR0 := hide (World.rowIs_made w1 (.slice none 0 0) (eqsF ds).length 38)
  have HE1 := hide hE1
  have HB1 := hide hb1
  clear hE1 hb1 HE
  go_wp2
  go_loopw [23] (fun vi wr => ∃ i : Nat, i ≤ (eqsF ds).length ∧ vi = .int .i64 i ∧ wr.heap.size = w1.heap.size + 1 + i ∧ Below w1.heap.size w1 wr ∧
      wr.rowIs w1.heap.size 38 (eqsF ds).length (fun j => if j < i then .slice (some ⟨w1.heap.size + 1 + j, 0, none⟩) n n else .slice none 0 0) ∧ (∀ j, j < i → wr.rowIs (w1.heap.size + 1 + j) 3 n (fun _ => .int .i64 0))) (fun vi _ => (eqsF ds).length - (intOf vi).toNat)
  case atStart => exact ⟨0, Nat.zero_le _, rfl, by simp, (Below.refl _ _).alloc (Nat.le_refl _) _, HR0.out.congr (fun j _ => by simp), fun j hj => by omega⟩
  case round =>
    clear HR0
    obtain ⟨i, hi, rfl, hsz, hbel, hout, hrows⟩ := hrel
    by_cases hlt : i < (eqsF ds).length
    · have j1 : (0 : Int) ≤ (i : Int) := by omega
      have j2 : (i : Int) < ((eqsF ds).length : Int) := by omega
      have lg : w1.heap.size < wr.heap.size := by omega
      have x0 : ∀ o, (wr.alloc o).cell? ⟨w1.heap.size, i, none⟩ = some (.slice none 0 0) := fun o => (World.cell?_alloc_past _ _ _ lg).trans ((hout.cell hlt).trans (by simp))
      have f0 : ∀ o, (wr.alloc o).frozen? ⟨w1.heap.size, i, none⟩ = false := fun o => (World.frozen?_alloc_past _ _ _ lg).trans (hout.frozen i)
      have HSZ := hide hsz
      have HOUT := hide hout
      have HROWS := hide hrows
      clear hsz hout hrows
      go_wp2
      go_roundw
      case rel =>
        have e1 : wr.heap.size = w1.heap.size + 1 + i := HSZ.out
        refine ⟨i + 1, by omega, by go_num, by simp; omega, ?_, ?_, ?_⟩
        · first | exact (hbel.alloc (by omega) _).setCell (Nat.le_refl _) _ | exact (hbel.setCell (Nat.le_refl _) _).alloc (by simp; omega) _
        · have h1 := (HOUT.out.set i (.slice (some ⟨wr.heap.size, 0, none⟩) n n)).alloc (.cells (madeCells #[.int .i64 0] n) 3)
          refine World.rowIs.congr ?_ (f := (fun j => if j = i then .slice (some ⟨wr.heap.size, 0, none⟩) n n else if j < i then .slice (some ⟨w1.heap.size + 1 + j, 0, none⟩) n n else .slice none 0 0)) (fun j hj => ?_)
          · exact h1
          · by_cases e : j = i
            · subst e; rw [if_pos rfl, if_pos (by omega), e1]
            · rw [if_neg e]
              by_cases h2 : j < i
              · rw [if_pos h2, if_pos (by omega)]
              · rw [if_neg h2, if_neg (by omega)]
        · intro j hj
          by_cases e : j = i
          · subst e
            have h2 := World.rowIs_made (wr.setCell ⟨w1.heap.size, j, none⟩ (.slice (some ⟨wr.heap.size, 0, none⟩) n n)) (.int .i64 0) n 3
            simp only [World.size_setCell] at h2
            rw [← e1]
            exact h2
          · exact ((HROWS.out j (by omega)).setOther (a := ⟨w1.heap.size, i, none⟩) (by show w1.heap.size + 1 + j ≠ w1.heap.size; omega) _).alloc _
      case measure => simp [intOf]; omega
    · have ek : i = (eqsF ds).length := by omega
      subst ek
      have hbw : Below w.heap.size w wr := HB1.out.trans (hbel.mono HB1.out.size)
      have HMAT : Hid (MatI wr w1.heap.size (eqsF ds).length n (fun i => w1.heap.size + 1 + i) (fun _ _ => 0)) := hide ⟨fun i hi => (hout.cell hi).trans (by simp [hi]), fun i hi => hrows i hi, fun i j _ _ e => by omega, fun i _ => by omega⟩
      have HSZ := hide hsz
      have HBW := hide hbw
      have HBEL := hide hbel
      clear hsz hout hrows hbel hbw
      go_wp2_with fail
      refine (HOR.out _ (HP.out.below HBW.out)).mono ?_
      rintro e w3 ⟨vT, T, rfl, hO, hown, hb3⟩
      have hSS : SS w w3 ds (.slice aE (eqsF ds).length cE) vT T w1.heap.size n (fun i => w1.heap.size + 1 + i) (fun _ _ => 0) := by
        have hs1 := HB1.out.size
        have hsz := HSZ.out
        refine ⟨HBW.out.trans (hb3.mono HBW.out.size), own_eqb (own_eqb HE1.out (fun b e => HBEL.out.block b (HE1.out.lt b e).2)) (fun b e => hb3.block b (by have := (HE1.out.lt b e).2; omega)), own_wkO hown HBW.out.size, HMAT.out.below hb3, by have := hb3.size; omega, ⟨by omega, fun i hi => by omega⟩, fun i hi => ⟨fun e => by have := (HE1.out.lt _ e).2; omega, fun e => by have := (hown.lt _ e).1; omega⟩⟩
      have hO' := hO
      obtain ⟨aT, cT, rfl, hshT⟩ := own_shape hown
      have p1 := (HP.out.below hSS.bel).c1
      have hnc : vn = vn := rfl
      have HSS := hide hSS
      have HO := hide hO
      clear hSS hO hO' hown hb3 hnc HOR
      obtain ⟨an, capn, rfl, _⟩ := own_shape HP.out.nodes
      go_wp2
      obtain ⟨R, hRe⟩ : ∃ R : Nat → Nat, R = fun i => w1.heap.size + 1 + i := ⟨_, rfl⟩
      rw [← hRe] at HSS
      have hRl : ∀ i, i < (eqsF ds).length → R i < w3.heap.size := fun i hi => World.rowIs.lt (HSS.out.mat.rows i hi)
      have HRL := hide hRl
      have HZ := hide (World.rowIs_made w3 (.int .i64 0) ns.length 3)
      have hTl := HO.out.len
      clear hRe hRl HMAT
      go_loopw [11, 12] (fun vb vk wr => ∃ (k gb : Nat) (Y : Nat → Int) (F : Nat → Nat → Int), k ≤ n ∧ vk = .int .i64 k ∧ vb = .slice (some ⟨gb, 0, none⟩) ns.length ns.length ∧ SS w wr ds (.slice aE (eqsF ds).length cE) (.slice aT T.length cT) T w1.heap.size n R F ∧ wr.rowIs gb 3 ns.length (fun j => .int .i64 (Y j)) ∧ (k ≠ 0 → ∀ c, c < ns.length → Y c = NV (k - 1) c) ∧ (∀ a b, a < (eqsF ds).length → b < k → F a b = S a b) ∧ w3.heap.size ≤ wr.heap.size) (fun _ vk _ => n - (intOf vk).toNat)
      case atStart => exact ⟨0, w3.heap.size, fun _ => 0, fun _ _ => 0, Nat.zero_le _, rfl, rfl, HSS.out.alloc _, HZ.out, fun h => absurd rfl h, fun a b _ h => by omega, by simp⟩
      case round =>
        clear HZ HSS p1
        obtain ⟨k, gb, Y, F, hk, rfl, rfl, hSS, hY, hYv, hF, h3l⟩ := hrel
        by_cases hkn : k < n
        · have p1 := (HP.out.below hSS.bel).c1
          have j1 : (k : Int) < (n : Int) := by omega
          have j0 : (0 : Int) ≤ (k : Int) := by omega
          have hT : RowAt wr (.slice aT T.length cT) (T.map fun (t : Nat) => (t : Int)) := own_row (by have := hSS.ord; rw [tCells_i] at this; exact this) (by omega) (by simp)
          have HFI := hide (fun W bq g X0 hW => fill_any wr W q ds ns vd _ vX (.slice aT T.length cT) ins NV T (HP.out.below hSS.bel) HWF.out (HX.out.below hSS.bel) hT HM.out HO.out bq g gb k X0 Y hW hYv)
          have HSS := hide hSS
          have HY := hide hY
          have HF := hide hF
          have H3L := hide h3l
          clear hSS hY hYv hF hT h3l
          go_wp2_with fail
          refine (HFI.out _ (wr.heap.size + 1) wr.heap.size (fun _ => 0) ⟨((Below.refl _ _).alloc (Nat.le_refl _) _).alloc (by simp) _, ?_, ?_, HY.out, by omega, Nat.le_refl _, by omega⟩).mono ?_
          · have h1 := heap_alloc_new (wr.alloc (.cells (madeCells #[.int .i64 0] ns.length) 3)) (.cells #[.int .i64 (k : Int), .slice (some ⟨wr.heap.size, 0, none⟩) ns.length ns.length, .slice (some ⟨gb, 0, none⟩) ns.length ns.length] 122)
            simpa using h1
          · exact (World.rowIs_made wr (.int .i64 0) ns.length 3).alloc _
          rintro e w4 ⟨rfl, X, hB4, hX4⟩
          obtain ⟨g, hg⟩ : ∃ g, g = wr.heap.size := ⟨_, rfl⟩
          have hRg : ∀ i, i < (eqsF ds).length → R i < g := fun i hi => by have := HRL.out i hi; have := H3L.out; omega
          have hgl : g ≤ w4.heap.size := by have := hB4.bel.size; omega
          have HS4 := hide (HSS.out.below hB4.bel)
          have HBK := hide hB4.blk
          have HNW := hide hB4.now
          have HX4 := hide hX4
          have HRG := hide hRg
          have h3l4 : w3.heap.size ≤ w4.heap.size := by have := H3L.out; omega
          have hgw : w.heap.size ≤ g := by have := HSS.out.bel.size; omega
          rw [← hg] at HBK HNW
          rw [← hg]
          clear hB4 hX4 HFI HSS HY hRg p1 hg
          go_wp2
          go_loopw [60] (fun vi wx => ∃ (i : Nat) (F2 : Nat → Nat → Int), i ≤ (eqsF ds).length ∧ vi = .int .i64 i ∧ SS w wx ds (.slice aE (eqsF ds).length cE) (.slice aT T.length cT) T w1.heap.size n R F2 ∧ wx.heap[g + 1]? = some (.cells #[.int .i64 (k : Int), .slice (some ⟨g, 0, none⟩) ns.length ns.length, .slice (some ⟨gb, 0, none⟩) ns.length ns.length] 122) ∧ wx.rowIs g 3 ns.length (fun j => .int .i64 (X j)) ∧ (∀ a b, a < (eqsF ds).length → b < k → F2 a b = S a b) ∧ (∀ a, a < i → F2 a k = S a k) ∧ w3.heap.size ≤ wx.heap.size) (fun vi _ => (eqsF ds).length - (intOf vi).toNat)
          case atStart => exact ⟨0, F, Nat.zero_le _, rfl, HS4.out, HBK.out, HNW.out, HF.out, fun a ha => by omega, h3l4⟩
          case round =>
            clear HS4 HBK HNW HF
            obtain ⟨i, F2, hi, rfl, hSS, hbk, hnw, hF, hFk, h3x⟩ := hrel
            by_cases hil : i < (eqsF ds).length
            · obtain ⟨ge, rfl, _, hge⟩ := hshE (by omega)
              obtain ⟨d, hd⟩ : ∃ d, d = (eqsF ds)[i]'hil := ⟨_, rfl⟩
              have hdm : d ∈ ds := (List.mem_filter.1 (by rw [hd]; exact List.getElem_mem hil)).1
              have hdk : d.kind ≠ 0 := by have := (List.mem_filter.1 (by rw [hd]; exact List.getElem_mem hil : d ∈ eqsF ds)).2; simpa using this
              have hdi : (eqsF ds)[i]? = some d := by rw [List.getElem?_eq_getElem hil, hd]
              obtain ⟨a, ha, had⟩ := List.getElem_of_mem hdm
              have hrl : d.root < ns.length := (HM.out.root a d (by rw [List.getElem?_eq_getElem ha, had]) hdk).1
              obtain ⟨x0, x1, x2, x3, x4, x5, x6⟩ := dc_later (own_zero hSS.eqs) (Below.refl _ wr) ((hSS.eqs.lt ge rfl).2) hil d hd
              have j3 : (0 : Int) ≤ (i : Int) := by omega
              have j4 : (i : Int) < ((eqsF ds).length : Int) := by omega
              have r1 : (0 : Int) ≤ (d.root : Int) := by omega
              have r2 : (d.root : Int) < (ns.length : Int) := by omega
              have hS := HS.out i d k hdi
              have hXr := HX4.out d.root hrl
              have hg1 : g + 1 < wr.heap.size := (Array.getElem?_eq_some_iff.1 hbk).1
              have o1 : ∀ o, (wr.alloc o).cell? ⟨w1.heap.size, i, none⟩ = some (.slice (some ⟨R i, 0, none⟩) n n) := fun o => (hSS.alloc o).mat.outer i hil
              have o2 : ∀ o, (wr.alloc o).cell? ⟨R i, k, none⟩ = some (.int .i64 (F2 i k)) := fun o => (hSS.alloc o).mat.cell hil hkn
              have o3 : ∀ o, (wr.alloc o).frozen? ⟨R i, k, none⟩ = false := fun o => (hSS.alloc o).mat.froz hil k
              have o4 : ∀ o, (wr.alloc o).cell? ⟨g + 1, 1, none⟩ = some (.slice (some ⟨g, 0, none⟩) ns.length ns.length) := fun o => (World.cell?_alloc_past _ _ _ hg1).trans ((cell_of_row wr _ 1 _ _ _ hbk).trans rfl)
              have o5 : ∀ o, (wr.alloc o).cell? ⟨g, d.root, none⟩ = some (.int .i64 (X d.root)) := fun o => (hnw.alloc o).cell hrl
              have hRg := HRG.out i hil
              have hrs := hSS.ge.2 i hil
              have HSS := hide hSS
              have HBK := hide hbk
              have HNW := hide hnw
              have HF := hide hF
              have HFK := hide hFk
              have HXR := hide (hXr.trans hS)
              clear hSS hbk hnw hF hFk hd hdm hdk hdi ha had hXr hS
              go_wp2_with fail
              go_big_region
              go_wp2
              go_roundw
              case rel =>
                refine ⟨i + 1, fun a b => if a = i ∧ b = k then X d.root else F2 a b, by omega, by go_num, ?_, ?_, ?_, fun a b ha hb => ?_, fun a ha => ?_, ?_⟩
                · first | exact ((HSS.out.alloc _).drew.set hil k _) | exact ((HSS.out.alloc _).set hil k _).drew
                · exact (heap_setCell_other _ ⟨R i, k, none⟩ (g + 1) _ (by show g + 1 ≠ R i; omega)).trans ((Below.heap_alloc _ _ _ hg1).trans HBK.out)
                · exact HNW.out.of_block ((heap_setCell_other _ ⟨R i, k, none⟩ g _ (by show g ≠ R i; omega)).trans (Below.heap_alloc _ _ _ (by omega)))
                · have : ¬ (a = i ∧ b = k) := fun e => by omega
                  simp only [if_neg this]; exact HF.out a b ha hb
                · by_cases e : a = i
                  · subst e; simp only [and_self, if_true]; exact HXR.out
                  · simp only [e, false_and, if_false]; exact HFK.out a (by omega)
                · simp; omega
              case measure => simp [intOf]; omega
            · have ei : i = (eqsF ds).length := by omega
              subst ei
              have o4 : wr.cell? ⟨g + 1, 1, none⟩ = some (.slice (some ⟨g, 0, none⟩) ns.length ns.length) := (cell_of_row wr _ 1 _ _ _ hbk).trans rfl
              have HSS := hide hSS
              have HNW := hide hnw
              have HF := hide hF
              have HFK := hide hFk
              clear hSS hbk hnw hF hFk
              go_wp2
              go_roundw
              case rel =>
                refine ⟨k + 1, g, X, F2, by omega, by go_num, rfl, HSS.out, HNW.out, fun _ c hc => HX4.out c hc, fun a b ha hb => ?_, h3x⟩
                rcases Nat.lt_succ_iff_lt_or_eq.1 hb with h' | rfl
                · exact HF.out a b ha h'
                · exact HFK.out a ha
              case measure => simp [intOf]; omega
        · have ek : k = n := by omega
          subst ek
          have HSS := hide hSS
          have HF := hide hF
          clear hSS hY hYv hF h3l
          go_wp2
          go_ret
          refine ⟨_, rfl, ⟨⟨_, w1.heap.size, (eqsF ds).length, R, rfl, fun _ => rfl, HSS.out.mat.congr (fun a b ha hb => HF.out a b ha hb), HSS.out.ge.2, HSS.out.ge.1⟩⟩, HSS.out.bel⟩

end Go.Proofs.Ytmndgoapkmhglab
