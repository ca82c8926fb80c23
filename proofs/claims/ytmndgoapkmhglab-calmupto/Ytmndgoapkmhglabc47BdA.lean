import Derived.Test.Ytmndgoapkmhglabc11RefHa
import Derived.Test.Ytmndgoapkmhglabc13RefI
import Derived.Test.Ytmndgoapkmhglabc26JudI
import Derived.Test.Ytmndgoapkmhglabc29JudK
import Derived.Test.Ytmndgoapkmhglabc30LawP
import Derived.Test.Ytmndgoapkmhglabc32OpenL
import Derived.Test.Ytmndgoapkmhglabc35PlyL
import Derived.Test.Ytmndgoapkmhglabc45OrdD
import Derived.Test.Ytmndgoapkmhglabc46SvD
namespace Go.Proofs.Ytmndgoapkmhglab
open Go.RowKit
attribute [local go_sem ↓] Go.wp_at_zero Go.wp_at_succ
theorem tCells_i (T : List Nat) : tCells T = iCells (T.map fun (t : Nat) => (t : Int)) := by simp [tCells, iCells]
structure SS (w wr : World) (ds : List Dc) (vE vT : Value) (T : List Nat) (rg n : Nat) (R : Nat → Nat) (F : Nat → Nat → Int) : Prop where
  bel : Below w.heap.size w wr
  eqs : wr.ownsRow w.heap.size 126 7 vE (eqsF ds).length (dcCells (eqsF ds))
  ord : wr.ownsRow w.heap.size 3 1 vT T.length (tCells T)
  mat : MatI wr rg (eqsF ds).length n R F
  rgl : rg < wr.heap.size
  ge : w.heap.size ≤ rg ∧ ∀ i, i < (eqsF ds).length → w.heap.size ≤ R i
  apart : ∀ i, i < (eqsF ds).length → vE.ownBlock ≠ some (R i) ∧ vT.ownBlock ≠ some (R i)
theorem SS.below {w wr w' : World} {ds : List Dc} {vE vT : Value} {T : List Nat} {rg n : Nat} {R : Nat → Nat} {F : Nat → Nat → Int} (h : SS w wr ds vE vT T rg n R F) (hb : Below wr.heap.size wr w') : SS w w' ds vE vT T rg n R F :=
  ⟨h.bel.trans (hb.mono h.bel.size), own_eqb h.eqs (fun b e => hb.block b (h.eqs.lt b e).2), own_eqb h.ord (fun b e => hb.block b (h.ord.lt b e).2), h.mat.below hb, Nat.lt_of_lt_of_le h.rgl hb.size, h.ge, h.apart⟩
theorem SS.alloc {w wr : World} {ds : List Dc} {vE vT : Value} {T : List Nat} {rg n : Nat} {R : Nat → Nat} {F : Nat → Nat → Int} (h : SS w wr ds vE vT T rg n R F) (o : Obj) : SS w (wr.alloc o) ds vE vT T rg n R F := h.below ((Below.refl _ _).alloc (Nat.le_refl _) o)
theorem SS.drew {w wr : World} {ds : List Dc} {vE vT : Value} {T : List Nat} {rg n : Nat} {R : Nat → Nat} {F : Nat → Nat → Int} (h : SS w wr ds vE vT T rg n R F) : SS w wr.drew ds vE vT T rg n R F := h.below ((Below.refl _ _).drew)
theorem SS.set {w wr : World} {ds : List Dc} {vE vT : Value} {T : List Nat} {rg n : Nat} {R : Nat → Nat} {F : Nat → Nat → Int} (h : SS w wr ds vE vT T rg n R F) {i : Nat} (hi : i < (eqsF ds).length) (k : Nat) (v : Int) : SS w (wr.setCell ⟨R i, k, none⟩ (.int .i64 v)) ds vE vT T rg n R (fun a b => if a = i ∧ b = k then v else F a b) :=
  ⟨h.bel.setCell (h.ge.2 i hi) _, own_eqb h.eqs (fun b e => heap_setCell_other wr ⟨R i, k, none⟩ b _ (fun e2 => (h.apart i hi).1 (by rw [e, e2]))), own_eqb h.ord (fun b e => heap_setCell_other wr ⟨R i, k, none⟩ b _ (fun e2 => (h.apart i hi).2 (by rw [e, e2]))), h.mat.set hi k v, by simpa using h.rgl, h.ge, h.apart⟩
set_option maxHeartbeats 4000000 in
set_option maxRecDepth 100000 in
theorem sof_any (w : World) (q : Nat) (ds : List Dc) (ns : List Nd) (vd vn vX : Value) (ins : List (List Int)) (NV : Nat → Nat → Int) (h : ProgAt w q ds ns vd vn) (hwf : ProgWf ds ns) (hX : LsAt w vX ins) (hM : Meant ds ns ins NV) (hn16 : ds.length ≤ 16) (rank : Nat → Nat) (hR : Ranked ds (markAll ds ns 0 ds noM) rank)
    (n : Nat) (hn : n ≤ 200) (S : Nat → Nat → Int) (hS : ∀ (j : Nat) (d : Dc) (k : Nat), (eqsF ds)[j]? = some d → NV k d.root = S j k) :
    Calls Try.prog 39 #[.pointer (some ⟨q, 0, none⟩), vX, .int .i64 (n : Int)] w fun e w' => ∃ v, e = .returned v ∧ Outs w.heap.size w' v (eqsF ds).length n S ∧ Below w.heap.size w w' := by
  have hel : (eqsF ds).length ≤ 16 := Nat.le_trans (List.length_filter_le _ _) hn16
  have hnl := hwf.nl
  have hm1 := run_make_row' (P := Try.prog) 31 38 (.slice none 0 0) 24 Try.underlying31 Try.infoIntsE rfl .i64 .i64 (eqsF ds).length (by omega) (by omega)
  have hm2 := run_make_row' (P := Try.prog) 38 3 (.int .i64 0) 8 Try.underlying38 Try.infoIntO rfl .i64 .i64 n (by omega) (by omega)
  have hm3 := run_make_row' (P := Try.prog) 38 3 (.int .i64 0) 8 Try.underlying38 Try.infoIntO rfl .i64 .i64 ns.length (by omega) (by omega)
  have HE := hide (equations_any w q ds ns vd vn h (by omega))
  have HOR := hide (fun W hW => order_any W q ds ns vd vn hW hwf (fun m hm hk => (hM.decl m hm hk).1) hn16 rank hR)
  have HP := hide h
  have HX := hide hX
  have HWF := hide hwf
  have HM := hide hM
  have HS := hide hS
  clear h hX hM hS hR hwf
  go_enter Try.func39, Try.ntmps39
  go_wp2_with fail
  refine HE.out.mono ?_
  rintro e w1 ⟨vE, rfl, hE1, hb1⟩
  obtain ⟨aE, cE, rfl, hshE⟩ := own_shape hE1
  have HR0 := hide (World.rowIs_made w1 (.slice none 0 0) (eqsF ds).length 38)
  have HE1 := hide hE1
  have HB1 := hide hb1
  clear hE1 hb1 HE
  go_wp2
  go_loopw [23] (fun vi wr => ∃ i : Nat, i ≤ (eqsF ds).length ∧ vi = .int .i64 i ∧ wr.heap.size = w1.heap.size + 1 + i ∧ Below w1.heap.size w1 wr ∧
      wr.rowIs w1.heap.size 38 (eqsF ds).length (fun j => if j < i then .slice (some ⟨w1.heap.size + 1 + j, 0, none⟩) n n else .slice none 0 0) ∧ (∀ j, j < i → wr.rowIs (w1.heap.size + 1 + j) 3 n (fun _ => .int .i64 0))) (fun vi _ => (eqsF ds).length - (intOf vi).toNat)
  case atStart => exact ⟨0, Nat.zero_le _, rfl, by simp, (Below.refl _ _).alloc (Nat.le_refl _) _, HR0.out.congr (fun j _ => by simp), fun j hj => by omega⟩
  case round =>
    clear HR0
    obtain ⟨i, hi, rfl, hsz, hbel, hout, hrows⟩ := hrel
    by_cases hlt : i < (eqsF ds).length
    · have j1 : (0 : Int) ≤ (i : Int) := by omega
      have j2 : (i : Int) < ((eqsF ds).length : Int) := by omega
      have lg : w1.heap.size < wr.heap.size := by omega
      have x0 : ∀ o, (wr.alloc o).cell? ⟨w1.heap.size, i, none⟩ = some (.slice none 0 0) := fun o => (World.cell?_alloc_past _ _ _ lg).trans ((hout.cell hlt).trans (by simp))
      have f0 : ∀ o, (wr.alloc o).frozen? ⟨w1.heap.size, i, none⟩ = false := fun o => (World.frozen?_alloc_past _ _ _ lg).trans (hout.frozen i)
      have HSZ := hide hsz
      have HOUT := hide hout
      have HROWS := hide hrows
      clear hsz hout hrows
      go_wp2
      go_roundw
      case rel =>
        have e1 : wr.heap.size = w1.heap.size + 1 + i := HSZ.out
        refine ⟨i + 1, by omega, by go_num, by simp; omega, ?_, ?_, ?_⟩
        · first | exact (hbel.alloc (by omega) _).setCell (Nat.le_refl _) _ | exact (hbel.setCell (Nat.le_refl _) _).alloc (by simp; omega) _
        · have h1 := (HOUT.out.set i (.slice (some ⟨wr.heap.size, 0, none⟩) n n)).alloc (.cells (madeCells #[.int .i64 0] n) 3)
          refine World.rowIs.congr ?_ (f := (fun j => if j = i then .slice (some ⟨wr.heap.size, 0, none⟩) n n else if j < i then .slice (some ⟨w1.heap.size + 1 + j, 0, none⟩) n n else .slice none 0 0)) (fun j hj => ?_)
          · exact h1
          · by_cases e : j = i
            · subst e; rw [if_pos rfl, if_pos (by omega), e1]
            · rw [if_neg e]
              by_cases h2 : j < i
              · rw [if_pos h2, if_pos (by omega)]
              · rw [if_neg h2, if_neg (by omega)]
        · intro j hj
          by_cases e : j = i
          · subst e
            have h2 := World.rowIs_made (wr.setCell ⟨w1.heap.size, j, none⟩ (.slice (some ⟨wr.heap.size, 0, none⟩) n n)) (.int .i64 0) n 3
            simp only [World.size_setCell] at h2
            rw [← e1]
            exact h2
          · exact ((HROWS.out j (by omega)).setOther (a := ⟨w1.heap.size, i, none⟩) (by show w1.heap.size + 1 + j ≠ w1.heap.size; omega) _).alloc _
      case measure => simp [intOf]; omega
    · have ek : i = (eqsF ds).length := by omega
      subst ek
      have hbw : Below w.heap.size w wr := HB1.out.trans (hbel.mono HB1.out.size)
      have HMAT : Hid (MatI wr w1.heap.size (eqsF ds).length n (fun i => w1.heap.size + 1 + i) (fun _ _ => 0)) := hide ⟨fun i hi => (hout.cell hi).trans (by simp [hi]), fun i hi => hrows i hi, fun i j _ _ e => by omega, fun i _ => by omega⟩
      have HSZ := hide hsz
      have HBW := hide hbw
      have HBEL := hide hbel
      clear hsz hout hrows hbel hbw
      go_wp2_with fail
      refine (HOR.out _ (HP.out.below HBW.out)).mono ?_
      rintro e w3 ⟨vT, T, rfl, hO, hown, hb3⟩
      have hSS : SS w w3 ds (.slice aE (eqsF ds).length cE) vT T w1.heap.size n (fun i => w1.heap.size + 1 + i) (fun _ _ => 0) := by
        have hs1 := HB1.out.size
        have hsz := HSZ.out
        refine ⟨HBW.out.trans (hb3.mono HBW.out.size), own_eqb (own_eqb HE1.out (fun b e => HBEL.out.block b (HE1.out.lt b e).2)) (fun b e => hb3.block b (by have := (HE1.out.lt b e).2; omega)), own_wkO hown HBW.out.size, HMAT.out.below hb3, by have := hb3.size; omega, ⟨by omega, fun i hi => by omega⟩, fun i hi => ⟨fun e => by have := (HE1.out.lt _ e).2; omega, fun e => by have := (hown.lt _ e).1; omega⟩⟩
      have hO' := hO
      obtain ⟨aT, cT, rfl, hshT⟩ := own_shape hown
      have p1 := (HP.out.below hSS.bel).c1
      have hnc : vn = vn := rfl
      have HSS := hide hSS
      have HO := hide hO
      clear hSS hO hO' hown hb3 hnc HOR
      obtain ⟨an, capn, rfl, _⟩ := own_shape HP.out.nodes
      go_wp2
      obtain ⟨R, hRe⟩ : ∃ R : Nat → Nat, R = fun i => w1.heap.size + 1 + i := ⟨_, rfl⟩
      rw [← hRe] at HSS
      have hRl : ∀ i, i < (eqsF ds).length → R i < w3.heap.size := fun i hi => World.rowIs.lt (HSS.out.mat.rows i hi)
      have HRL := hide hRl
      have HZ := hide (World.rowIs_made w3 (.int .i64 0) ns.length 3)
      have hTl := HO.out.len
      clear hRe hRl HMAT
      go_loopw [11, 12] (fun vb vk wr => ∃ (k gb : Nat) (Y : Nat → Int) (F : Nat → Nat → Int), k ≤ n ∧ vk = .int .i64 k ∧ vb = .slice (some ⟨gb, 0, none⟩) ns.length ns.length ∧ SS w wr ds (.slice aE (eqsF ds).length cE) (.slice aT T.length cT) T w1.heap.size n R F ∧ wr.rowIs gb 3 ns.length (fun j => .int .i64 (Y j)) ∧ (k ≠ 0 → ∀ c, c < ns.length → Y c = NV (k - 1) c) ∧ (∀ a b, a < (eqsF ds).length → b < k → F a b = S a b) ∧ w3.heap.size ≤ wr.heap.size) (fun _ vk _ => n - (intOf vk).toNat)
      case atStart => exact ⟨0, w3.heap.size, fun _ => 0, fun _ _ => 0, Nat.zero_le _, rfl, rfl, HSS.out.alloc _, HZ.out, fun h => absurd rfl h, fun a b _ h => by omega, by simp⟩
      case round =>
        clear HZ HSS p1
        obtain ⟨k, gb, Y, F, hk, rfl, rfl, hSS, hY, hYv, hF, h3l⟩ := hrel
        by_cases hkn : k < n
        · have p1 := (HP.out.below hSS.bel).c1
          have j1 : (k : Int) < (n : Int) := by omega
          have j0 : (0 : Int) ≤ (k : Int) := by omega
          have hT : RowAt wr (.slice aT T.length cT) (T.map fun (t : Nat) => (t : Int)) := own_row (by have := hSS.ord; rw [tCells_i] at this; exact this) (by omega) (by simp)
          have HFI := hide (fun W bq g X0 hW => fill_any wr W q ds ns vd _ vX (.slice aT T.length cT) ins NV T (HP.out.below hSS.bel) HWF.out (HX.out.below hSS.bel) hT HM.out HO.out bq g gb k X0 Y hW hYv)
          have HSS := hide hSS
          have HY := hide hY
          have HF := hide hF
          have H3L := hide h3l
          clear hSS hY hYv hF hT h3l
          go_wp2_with fail
          refine (HFI.out _ (wr.heap.size + 1) wr.heap.size (fun _ => 0) ⟨((Below.refl _ _).alloc (Nat.le_refl _) _).alloc (by simp) _, ?_, ?_, HY.out, by omega, Nat.le_refl _, by omega⟩).mono ?_
          · have h1 := heap_alloc_new (wr.alloc (.cells (madeCells #[.int .i64 0] ns.length) 3)) (.cells #[.int .i64 (k : Int), .slice (some ⟨wr.heap.size, 0, none⟩) ns.length ns.length, .slice (some ⟨gb, 0, none⟩) ns.length ns.length] 122)
            simpa using h1
          · exact (World.rowIs_made wr (.int .i64 0) ns.length 3).alloc _
          rintro e w4 ⟨rfl, X, hB4, hX4⟩
          obtain ⟨g, hg⟩ : ∃ g, g = wr.heap.size := ⟨_, rfl⟩
          have hRg : ∀ i, i < (eqsF ds).length → R i < g := fun i hi => by have := HRL.out i hi; have := H3L.out; omega
          have hgl : g ≤ w4.heap.size := by have := hB4.bel.size; omega
          have HS4 := hide (HSS.out.below hB4.bel)
          have HBK := hide hB4.blk
          have HNW := hide hB4.now
          have HX4 := hide hX4
          have HRG := hide hRg
          have h3l4 : w3.heap.size ≤ w4.heap.size := by have := H3L.out; omega
          have hgw : w.heap.size ≤ g := by have := HSS.out.bel.size; omega
          rw [← hg] at HBK HNW
          rw [← hg]
          clear hB4 hX4 HFI HSS HY hRg p1 hg
          go_wp2
          go_loopw [60] (fun vi wx => ∃ (i : Nat) (F2 : Nat → Nat → Int), i ≤ (eqsF ds).length ∧ vi = .int .i64 i ∧ SS w wx ds (.slice aE (eqsF ds).length cE) (.slice aT T.length cT) T w1.heap.size n R F2 ∧ wx.heap[g + 1]? = some (.cells #[.int .i64 (k : Int), .slice (some ⟨g, 0, none⟩) ns.length ns.length, .slice (some ⟨gb, 0, none⟩) ns.length ns.length] 122) ∧ wx.rowIs g 3 ns.length (fun j => .int .i64 (X j)) ∧ (∀ a b, a < (eqsF ds).length → b < k → F2 a b = S a b) ∧ (∀ a, a < i → F2 a k = S a k) ∧ w3.heap.size ≤ wx.heap.size) (fun vi _ => (eqsF ds).length - (intOf vi).toNat)
          case atStart => exact ⟨0, F, Nat.zero_le _, rfl, HS4.out, HBK.out, HNW.out, HF.out, fun a ha => by omega, h3l4⟩
          case round =>
            clear HS4 HBK HNW HF
            obtain ⟨i, F2, hi, rfl, hSS, hbk, hnw, hF, hFk, h3x⟩ := hrel
            by_cases hil : i < (eqsF ds).length
            · obtain ⟨ge, rfl, _, hge⟩ := hshE (by omega)
              obtain ⟨d, hd⟩ : ∃ d, d = (eqsF ds)[i]'hil := ⟨_, rfl⟩
              have hdm : d ∈ ds := (List.mem_filter.1 (by rw [hd]; exact List.getElem_mem hil)).1
              have hdk : d.kind ≠ 0 := by have := (List.mem_filter.1 (by rw [hd]; exact List.getElem_mem hil : d ∈ eqsF ds)).2; simpa using this
              have hdi : (eqsF ds)[i]? = some d := by rw [List.getElem?_eq_getElem hil, hd]
              obtain ⟨a, ha, had⟩ := List.getElem_of_mem hdm
              have hrl : d.root < ns.length := (HM.out.root a d (by rw [List.getElem?_eq_getElem ha, had]) hdk).1
              obtain ⟨x0, x1, x2, x3, x4, x5, x6⟩ := dc_later (own_zero hSS.eqs) (Below.refl _ wr) ((hSS.eqs.lt ge rfl).2) hil d hd
              have j3 : (0 : Int) ≤ (i : Int) := by omega
              have j4 : (i : Int) < ((eqsF ds).length : Int) := by omega
              have r1 : (0 : Int) ≤ (d.root : Int) := by omega
              have r2 : (d.root : Int) < (ns.length : Int) := by omega
              have hS := HS.out i d k hdi
              have hXr := HX4.out d.root hrl
              have hg1 : g + 1 < wr.heap.size := (Array.getElem?_eq_some_iff.1 hbk).1
              have o1 : ∀ o, (wr.alloc o).cell? ⟨w1.heap.size, i, none⟩ = some (.slice (some ⟨R i, 0, none⟩) n n) := fun o => (hSS.alloc o).mat.outer i hil
              have o2 : ∀ o, (wr.alloc o).cell? ⟨R i, k, none⟩ = some (.int .i64 (F2 i k)) := fun o => (hSS.alloc o).mat.cell hil hkn
              have o3 : ∀ o, (wr.alloc o).frozen? ⟨R i, k, none⟩ = false := fun o => (hSS.alloc o).mat.froz hil k
              have o4 : ∀ o, (wr.alloc o).cell? ⟨g + 1, 1, none⟩ = some (.slice (some ⟨g, 0, none⟩) ns.length ns.length) := fun o => (World.cell?_alloc_past _ _ _ hg1).trans ((cell_of_row wr _ 1 _ _ _ hbk).trans rfl)
              have o5 : ∀ o, (wr.alloc o).cell? ⟨g, d.root, none⟩ = some (.int .i64 (X d.root)) := fun o => (hnw.alloc o).cell hrl
              have hRg := HRG.out i hil
              have hrs := hSS.ge.2 i hil
              have HSS := hide hSS
              have HBK := hide hbk
              have HNW := hide hnw
              have HF := hide hF
              have HFK := hide hFk
              have HXR := hide (hXr.trans hS)
              clear hSS hbk hnw hF hFk hd hdm hdk hdi ha had hXr hS
              go_wp2_with fail
              go_big_region
              go_wp2
              go_roundw
              case rel =>
                refine ⟨i + 1, fun a b => if a = i ∧ b = k then X d.root else F2 a b, by omega, by go_num, ?_, ?_, ?_, fun a b ha hb => ?_, fun a ha => ?_, ?_⟩
                · first | exact ((HSS.out.alloc _).drew.set hil k _) | exact ((HSS.out.alloc _).set hil k _).drew
                · exact (heap_setCell_other _ ⟨R i, k, none⟩ (g + 1) _ (by show g + 1 ≠ R i; omega)).trans ((Below.heap_alloc _ _ _ hg1).trans HBK.out)
                · exact HNW.out.of_block ((heap_setCell_other _ ⟨R i, k, none⟩ g _ (by show g ≠ R i; omega)).trans (Below.heap_alloc _ _ _ (by omega)))
                · have : ¬ (a = i ∧ b = k) := fun e => by omega
                  simp only [if_neg this]; exact HF.out a b ha hb
                · by_cases e : a = i
                  · subst e; simp only [and_self, if_true]; exact HXR.out
                  · simp only [e, false_and, if_false]; exact HFK.out a (by omega)
                · simp; omega
              case measure => simp [intOf]; omega
            · have ei : i = (eqsF ds).length := by omega
              subst ei
              have o4 : wr.cell? ⟨g + 1, 1, none⟩ = some (.slice (some ⟨g, 0, none⟩) ns.length ns.length) := (cell_of_row wr _ 1 _ _ _ hbk).trans rfl
              have HSS := hide hSS
              have HNW := hide hnw
              have HF := hide hF
              have HFK := hide hFk
              clear hSS hbk hnw hF hFk
              go_wp2
              go_roundw
              case rel =>
                refine ⟨k + 1, g, X, F2, by omega, by go_num, rfl, HSS.out, HNW.out, fun _ c hc => HX4.out c hc, fun a b ha hb => ?_, h3x⟩
                rcases Nat.lt_succ_iff_lt_or_eq.1 hb with h' | rfl
                · exact HF.out a b ha h'
                · exact HFK.out a ha
              case measure => simp [intOf]; omega
        · have ek : k = n := by omega
          subst ek
          have HSS := hide hSS
          have HF := hide hF
          clear hSS hY hYv hF h3l
          go_wp2
          go_ret
          refine ⟨_, rfl, ⟨⟨_, w1.heap.size, (eqsF ds).length, R, rfl, fun _ => rfl, HSS.out.mat.congr (fun a b ha hb => HF.out a b ha hb), HSS.out.ge.2, HSS.out.ge.1⟩⟩, HSS.out.bel⟩

set_option maxHeartbeats 1000000 in
set_option maxRecDepth 100000 in
theorem pone_any (w : World) (ge rk : Nat) (E : Nat → Nat) (Rw : Nat → Bool) (he : w.rowIs ge 3 4 (fun i => .int .i64 (E i : Int))) (hr : w.rowIs rk 4 4 (fun i => .bool (Rw i))) (hE : ∀ q, q < 4 → E q ≤ 3) :
    Calls Try.prog 87 #[.slice (some ⟨ge, 0, none⟩) 4 4, .slice (some ⟨rk, 0, none⟩) 4 4] w fun e w' => ∃ t : Nat, e = .returned (.int .i64 (t : Int)) ∧ OneM E Rw 4 t ∧ t ≤ 4 ∧ Below w.heap.size w w' := by
  have HE := hide he
  have HR := hide hr
  have HB := hide hE
  clear he hr hE
  go_enter Try.func87, Try.ntmps87
  go_wp2
  go_loopw [5, 10] (fun vm vi wr => ∃ k t : Nat, k ≤ 4 ∧ t ≤ 4 ∧ vi = .int .i64 k ∧ vm = .int .i64 t ∧ OneM E Rw k t ∧ wr = w) (fun _ vi _ => 4 - (intOf vi).toNat)
  case atStart => exact ⟨0, 0, by omega, by omega, rfl, rfl, OneM.zero E Rw, rfl⟩
  case round =>
    obtain ⟨k, t, hk, ht, rfl, rfl, hO, rfl⟩ := hrel
    have HO := hide hO
    clear hO
    by_cases hlt : k < 4
    · have x0 := HE.out.cell hlt
      have x1 := HR.out.cell hlt
      have hb := HB.out k hlt
      have j1 : (0 : Int) ≤ (k : Int) := by omega
      have j2 : (k : Int) < 4 := by omega
      have hw : IntKind.i64.wrap ((E k : Int) + 1) = (E k : Int) + 1 := by rw [IntKind.wrap_i64]; omega
      obtain ⟨rv, hrv⟩ : ∃ rv, Rw k = rv := ⟨_, rfl⟩
      rw [hrv] at x1
      cases rv with
      | false =>
        have HN := hide (HO.out.keep (fun e => by rw [hrv] at e; cases e.1))
        clear hrv
        go_wp2
        go_roundw
        case rel => exact ⟨k + 1, t, by omega, ht, by go_num, rfl, HN.out, by first | rfl | trivial⟩
        case measure => simp [intOf]; omega
      | true =>
        by_cases hlt2 : (E k : Int) + 1 > (t : Int)
        · have HN := hide (HO.out.more hrv (by omega))
          clear hrv
          go_wp2
          go_roundw
          case rel => exact ⟨k + 1, E k + 1, by omega, by omega, by go_num, by go_num, HN.out, by first | rfl | trivial⟩
          case measure => simp [intOf]; omega
        · have HN := hide (HO.out.keep (fun e => by have := e.2; omega))
          clear hrv
          go_wp2
          go_roundw
          case rel => exact ⟨k + 1, t, by omega, ht, by go_num, rfl, HN.out, by first | rfl | trivial⟩
          case measure => simp [intOf]; omega
    · have ek : k = 4 := by omega
      subst ek
      go_wp2
      go_ret
      exact ⟨t, rfl, HO.out, ht, Below.refl _ _⟩
set_option maxHeartbeats 2000000 in
set_option maxRecDepth 100000 in
theorem plong_any (w : World) (g : Nat) (R : Nat → Nat) (M : Mx) (hM : Mat w g 4 R M) (hA : ∀ q n, q < 4 → aheadF M q n = true → n ≤ 3) :
    Calls Try.prog 55 #[.slice (some ⟨g, 0, none⟩) 4 4] w fun e w' => e = .returned (.int .i64 (dUp M 3 : Int)) ∧ Below w.heap.size w w' := by
  have hm1 := run_make_row' (P := Try.prog) 38 3 (.int .i64 0) 8 Try.underlying38 Try.infoInt rfl .i64 .i64 4 (by omega) (by omega)
  simp only [show ((4 : Nat) : Int) = 4 from rfl] at hm1
  have HR0 := hide (World.rowIs_made w (.int .i64 0) 4 3)
  have HM := hide hM
  have HA := hide hA
  have hgl := hM.lt (by omega)
  clear hM hA
  go_enter Try.func55, Try.ntmps55
  go_wp2
  go_loopw [4, 12] (fun vm vi wr => ∃ (r t : Nat) (E : Nat → Nat), r ≤ 4 ∧ vi = .int .i64 r ∧ vm = .int .i64 t ∧ wr.rowIs w.heap.size 3 4 (fun i => .int .i64 (E i : Int)) ∧ LgI M r 0 E t ∧ Below w.heap.size w wr) (fun _ vi _ => 4 - (intOf vi).toNat)
  case atStart => exact ⟨0, 0, fun _ => 0, by omega, rfl, rfl, HR0.out, LgI.start M, (Below.refl _ _).alloc (Nat.le_refl _) _⟩
  case round =>
    obtain ⟨r, t, E, hr, rfl, rfl, hrow, hI, hbr⟩ := hrel
    have HI := hide hI
    have HROW := hide hrow
    have HBR := hide hbr
    clear hI hrow hbr
    by_cases hlt : r < 4
    · have j1 : (r : Int) < 4 := by omega
      go_wp2_with fail
      go_loopw [4, 16] (fun vm vi wx => ∃ (k t : Nat) (E : Nat → Nat), k ≤ 4 ∧ vi = .int .i64 k ∧ vm = .int .i64 t ∧ wx.rowIs w.heap.size 3 4 (fun i => .int .i64 (E i : Int)) ∧ LgI M r k E t ∧ Below w.heap.size w wx) (fun _ vi _ => 4 - (intOf vi).toNat)
      case atStart => exact ⟨0, t, E, by omega, rfl, rfl, HROW.out, HI.out, HBR.out⟩
      case round =>
        clear HI HROW HBR
        obtain ⟨k, t, E, hk, rfl, rfl, hrow, hI, hbr⟩ := hrel
        have HI := hide hI
        have HROW := hide hrow
        have HBR := hide hbr
        by_cases hkl : k < 4
        · have x0 := (hbr.cell (p := ⟨g, k, none⟩) hgl).trans (HM.out.outer k hkl)
          have hRk : wr.rowIs (R k) 4 4 (fun i => .bool (M k i)) := (HM.out.rows k hkl).of_block (hbr.block _ (World.rowIs.lt (HM.out.rows k hkl)))
          have j2 : (0 : Int) ≤ (k : Int) := by omega
          have j3 : (k : Int) < 4 := by omega
          have HCL := hide (pone_any wr w.heap.size (R k) E (M k) hrow hRk (fun q hq => HA.out q _ hq (hI.up q hq)))
          clear hI hrow hbr hRk
          go_wp2_with fail
          refine HCL.out.mono ?_
          rintro e w2 ⟨x, rfl, hx, hx4, hb2⟩
          have hrow2 := HROW.out.of_block (hb2.block _ HROW.out.lt)
          have y0 := hrow2.cell hkl
          have f0 := hrow2.frozen k
          have hset := hrow2.set k (.int .i64 (x : Int))
          have y1 := hset.cell hkl
          simp only [if_true] at y1
          have HN := hide (HI.out.step hkl hx)
          have HSET : Hid ((w2.setCell ⟨w.heap.size, k, none⟩ (.int .i64 (x : Int))).rowIs w.heap.size 3 4 (fun i => .int .i64 (((if i = k then x else E i) : Nat) : Int))) := hide (hset.congr (fun i _ => by by_cases e : i = k <;> simp [e]))
          have HB2 : Hid (Below w.heap.size w (w2.setCell ⟨w.heap.size, k, none⟩ (.int .i64 (x : Int)))) := hide ((HBR.out.trans (hb2.mono HBR.out.size)).setCell (Nat.le_refl _) _)
          clear hx hb2 hrow2 hset x0
          by_cases hgt : (x : Int) > (t : Int)
          · have hxt : t < x := by omega
            rw [if_pos hxt] at HN
            clear hxt
            go_wp2
            go_roundw
            case rel => exact ⟨k + 1, x, _, by omega, by go_num, rfl, HSET.out, HN.out, HB2.out⟩
            case measure => simp [intOf]; omega
          · have hxt : ¬ t < x := by omega
            rw [if_neg hxt] at HN
            clear hxt
            go_wp2
            go_roundw
            case rel => exact ⟨k + 1, t, _, by omega, by go_num, rfl, HSET.out, HN.out, HB2.out⟩
            case measure => simp [intOf]; omega
        · have ek : k = 4 := by omega
          subst ek
          have HN := hide hI.round
          clear hI hrow hbr
          go_wp2
          go_roundw
          case rel => exact ⟨r + 1, t, E, by omega, by go_num, rfl, HROW.out, HN.out, HBR.out⟩
          case measure => simp [intOf]; omega
    · have ek : r = 4 := by omega
      subst ek
      have HD := hide (HI.out.done HA.out)
      go_wp2
      go_ret
      exact ⟨by rw [← HD.out]; rfl, HBR.out⟩
end Go.Proofs.Ytmndgoapkmhglab
