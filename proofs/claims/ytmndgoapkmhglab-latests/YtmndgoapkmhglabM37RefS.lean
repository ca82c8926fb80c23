import Derived.Test.YtmndgoapkmhglabM29RefK
import Derived.Test.YtmndgoapkmhglabM31RefR
import Derived.Test.YtmndgoapkmhglabM36OrdA
namespace Go.Proofs.Ytmndgoapkmhglab
open Go.RowKit
attribute [local go_sem ↓] Go.wp_at_zero Go.wp_at_succ

theorem phase_col (M : Mx) (k i : Nat) : phase M k i k = M i k := by unfold phase; cases h : M i k <;> simp
theorem midM_col (M : Mx) (k f m : Nat) : midM M k f m f k = M f k := by
  unfold midM
  split
  · exact phase_col M k f
  · rfl
theorem midM_put (M : Mx) (k f m : Nat) (v : Bool) (hv : v = phase M k f m) : upd (midM M k f m) f m v = midM M k f (m + 1) := by
  funext i j
  unfold upd midM
  by_cases e : i = f ∧ j = m
  · obtain ⟨rfl, rfl⟩ := e
    rw [if_pos ⟨rfl, rfl⟩, if_pos (.inr ⟨rfl, by omega⟩), hv]
  · rw [if_neg e]
    by_cases h : i < f ∨ (i = f ∧ j < m)
    · rw [if_pos h, if_pos (by omega)]
    · rw [if_neg h, if_neg (by omega)]

theorem RowsOnly.bel {w w' : World} {B n : Nat} {R : Nat → Nat} (h : RowsOnly w w' n R) (hR : ∀ i, i < n → B ≤ R i) : Below B w w' :=
  ⟨h.os, h.tape, h.output, by rw [h.size]; exact Nat.le_refl _, fun k hk => h.block k (fun i hi => by have := hR i hi; omega)⟩

set_option maxHeartbeats 2000000 in
set_option maxRecDepth 100000 in
theorem rcircles_any (w : World) (a : Option Addr) (g n cap B : Nat) (R : Nat → Nat) (M : Mx) (h : Mat w g n R M) (ha : 0 < n → a = some ⟨g, 0, none⟩) (hn : n ≤ 1501) (hB : B ≤ w.heap.size) (hR : ∀ i, i < n → B ≤ R i) :
    Calls Try.prog 95 #[.slice a n cap] w fun e w' => ∃ G, e = .returned (.slice (some ⟨G, 0, none⟩) n n) ∧ B ≤ G ∧ w'.rowIs G 4 n (fun i => .bool (warsh M n i i)) ∧ Below B w w' := by
  have hm2 := run_make_row' (P := Try.prog) 113 4 (.bool false) 1 Try.underlying113 Try.infoBool rfl .i64 .i64 n (by omega) (by omega)
  have HM := hide h
  have HA := hide ha
  have HR := hide hR
  clear h ha hR
  go_enter Try.func95, Try.ntmps95
  go_wp2
  go_loopw [4] (fun i wr => ∃ k : Nat, k ≤ n ∧ i = .int .i64 k ∧ Mat wr g n R (warsh M k) ∧ Below B w wr) (fun i _ => n - (intOf i).toNat)
  case atStart => exact ⟨0, Nat.zero_le _, rfl, HM.out, Below.refl _ _⟩
  case round =>
    clear HM
    obtain ⟨k, hk, rfl, hmat, hro⟩ := hrel
    by_cases hlt : k < n
    · have hag := HA.out (by omega)
      subst hag
      have HW : Hid (warsh M (k + 1) = phase (warsh M k) k) := hide rfl
      generalize warsh M k = Mk at *
      have HMAT := hide hmat
      have HRO := hide hro
      have j3 : (0 : Int) ≤ (k : Int) := by omega
      have j4 : (k : Int) < (n : Int) := by omega
      clear hmat hro
      go_wp2
      go_loopw [5] (fun i wr => ∃ f : Nat, f ≤ n ∧ i = .int .i64 f ∧ Mat wr g n R (midM Mk k f 0) ∧ Below B w wr) (fun i _ => n - (intOf i).toNat)
      case atStart => exact ⟨0, Nat.zero_le _, rfl, by rw [midM_zero]; exact HMAT.out, HRO.out⟩
      case round =>
        clear HMAT HRO
        obtain ⟨f, hf, rfl, hmat, hro⟩ := hrel
        by_cases hfl : f < n
        · have HMAT := hide hmat
          have HRO := hide hro
          have j1 : (0 : Int) ≤ (f : Int) := by omega
          have j2 : (f : Int) < (n : Int) := by omega
          clear hmat hro
          go_wp2
          go_loopw [6] (fun i wr => ∃ m : Nat, m ≤ n ∧ i = .int .i64 m ∧ Mat wr g n R (midM Mk k f m) ∧ Below B w wr) (fun i _ => n - (intOf i).toNat)
          case atStart => exact ⟨0, Nat.zero_le _, rfl, HMAT.out, HRO.out⟩
          case round =>
            clear HMAT HRO
            obtain ⟨m, hm, rfl, hmat, hro⟩ := hrel
            by_cases hml : m < n
            · have o1 := hmat.outer f hfl
              have o2 := hmat.outer k hlt
              have x2 := hmat.cell (i := k) (j := m) hlt hml
              rw [midM_between Mk k f m m (by omega)] at x2
              have x3 := hmat.cell (i := f) (j := m) hfl hml
              rw [midM_here Mk k f m m (by omega)] at x3
              have x4 := hmat.cell (i := f) (j := k) hfl hlt
              rw [midM_col] at x4
              have f3 := hmat.froz hfl m
              have HMAT := hide hmat
              have HRO := hide hro
              have j5 : (0 : Int) ≤ (m : Int) := by omega
              have j6 : (m : Int) < (n : Int) := by omega
              have HPH : Hid (phase Mk k f m = (Mk f m || (Mk f k && Mk k m))) := hide rfl
              have HBf := hide (HR.out f hfl)
              have HX : Hid (∀ (W : World) (V : Bool), Mat W g n R (midM Mk k f m) → V = phase Mk k f m → Mat (W.setCell ⟨R f, m, none⟩ (.bool V)) g n R (midM Mk k f (m + 1))) := hide (fun W V hW hV => by
                rw [← midM_put Mk k f m V hV]; exact hW.set hfl m V)
              clear hmat hro
              generalize hv1 : Mk f m = v1 at x3 HPH
              generalize hv2 : Mk f k = v2 at x4 HPH
              generalize hv3 : Mk k m = v3 at x2 HPH
              clear hv1 hv2 hv3
              have hc : v1 = true ∨ (v1 = false ∧ v2 = false) ∨ (v1 = false ∧ v2 = true) := by cases v1 <;> cases v2 <;> simp
              rcases hc with rfl | ⟨rfl, rfl⟩ | ⟨rfl, rfl⟩
              all_goals
                go_wp2_with fail
                go_big_region
                go_wp2
                go_roundw
                case rel =>
                  exact ⟨m + 1, by omega, by go_num, (HX.out _ _ HMAT.out (by rw [HPH.out]; rfl)).drew, (HRO.out.setCell HBf.out _).drew⟩
                case measure => simp [intOf]; omega
            · have HMAT := hide hmat
              have HRO := hide hro
              clear hmat hro
              go_wp2
              go_roundw
              case rel => exact ⟨f + 1, by omega, by go_num, HMAT.out.congr (midM_done Mk n k f m (by omega)), HRO.out⟩
              case measure => simp [intOf]; omega
        · have HMAT := hide hmat
          have HRO := hide hro
          clear hmat hro
          go_wp2
          go_roundw
          case rel => exact ⟨k + 1, by omega, by go_num, by rw [HW.out]; exact HMAT.out.congr (midM_all Mk n k f (by omega)), HRO.out⟩
          case measure => simp [intOf]; omega
    · have ek : k = n := by omega
      subst ek
      have HMAT := hide hmat
      have HRO := hide hro
      clear hmat hro
      go_wp2
      generalize hWM : warsh M k = WM at HMAT ⊢
      have hGB : B ≤ wr.heap.size := Nat.le_trans hB HRO.out.size
      have HGM : Hid (∀ i, i < k → R i ≠ wr.heap.size ∧ g ≠ wr.heap.size) := hide (fun i hi => ⟨by have := World.rowIs.lt (HMAT.out.rows i hi); omega, by have := HMAT.out.lt (by omega); omega⟩)
      obtain ⟨G, hG⟩ : ∃ G, G = wr.heap.size := ⟨_, rfl⟩
      rw [← hG] at HGM hGB ⊢
      have HR0 : Hid ((wr.alloc (.cells (madeCells #[.bool false] k) 4)).rowIs G 4 k (fun _ => .bool false)) := hide (by rw [hG]; exact World.rowIs_made wr (.bool false) k 4)
      have HRW : Hid (Below B w (wr.alloc (.cells (madeCells #[.bool false] k) 4))) := hide (HRO.out.alloc (Nat.le_trans hB HRO.out.size) _)
      have HMW := hide (HMAT.out.alloc (.cells (madeCells #[.bool false] k) 4))
      clear hG
      go_loopw [8] (fun i wx => ∃ m : Nat, m ≤ k ∧ i = .int .i64 m ∧ Mat wx g k R WM ∧ wx.rowIs G 4 k (fun i => if i < m then .bool (WM i i) else .bool false) ∧ Below B w wx) (fun i _ => k - (intOf i).toNat)
      case atStart => exact ⟨0, Nat.zero_le _, rfl, HMW.out, HR0.out.congr (fun i _ => by simp), HRW.out⟩
      case round =>
        clear HMAT HRO HRW HMW HR0
        obtain ⟨m, hm, rfl, hmat, hrow, hbel⟩ := hrel
        by_cases hml : m < k
        · have hag := HA.out (by omega)
          subst hag
          have o1 := hmat.outer m hml
          have x1 := hmat.cell hml hml
          have g1 := hrow.cell hml
          rw [if_neg (by omega)] at g1
          have g2 := hrow.frozen m
          have HMAT := hide hmat
          have HROW := hide hrow
          have j5 : (0 : Int) ≤ (m : Int) := by omega
          have j6 : (m : Int) < (k : Int) := by omega
          clear hmat hrow
          go_wp2
          go_roundw
          case rel =>
            refine ⟨m + 1, by omega, by go_num, HMAT.out.keep (heap_setCell_other wr ⟨G, m, none⟩ g _ (HGM.out m hml).2) (fun i hi => heap_setCell_other wr ⟨G, m, none⟩ (R i) _ (HGM.out i hi).1), ?_, hbel.setCell hGB _⟩
            refine (HROW.out.set m (.bool (WM m m))).congr (fun i hi => ?_)
            by_cases e : i = m
            · subst e; rw [if_pos rfl, if_pos (by omega)]
            · rw [if_neg e]
              by_cases h2 : i < m
              · rw [if_pos h2, if_pos (by omega)]
              · rw [if_neg h2, if_neg (by omega)]
          case measure => simp [intOf]; omega
        · have em : m = k := by omega
          subst em
          have HROW := hide hrow
          clear hmat hrow
          go_wp2
          go_ret
          subst hWM
          refine ⟨G, rfl, hGB, ?_, hbel⟩
          exact HROW.out.congr (fun i hi => by rw [if_pos hi])

end Go.Proofs.Ytmndgoapkmhglab

namespace Go.Proofs.Ytmndgoapkmhglab
open Go.RowKit
attribute [local go_sem ↓] Go.wp_at_zero Go.wp_at_succ

set_option maxHeartbeats 2000000 in
set_option maxRecDepth 100000 in
theorem rwrong_any (q g cap : Nat) (ts : List Tk) (L : List Dl) (vE vA vI vQ : Value) (ho : ROk ts L) (hp : ∀ i, (tkAt ts i).pos ≤ 1500) : ∀ (n : Nat) (t : Ast) (i wt : Nat) (w : World), t.size ≤ n → RProg w q g cap ts L vE vA vI vQ → Sp ts t i → i + t.len < ts.length →
    Calls Try.prog 93 #[.pointer (some ⟨q, 0, none⟩), .int .i64 (i : Int), .int .u8 (wt : Int)] w fun e w' => e = .returned (optI (wrongR ts L t i wt)) ∧ Below w.heap.size w w' := by
  intro n
  induction n with
  | zero => intro t i wt w hn; have := t.size_pos; omega
  | succ n ih =>
    intro t i wt w hn h hs hl
    have hlen := ho.len
    have hpo := hp i
    have hil : i < ts.length := by omega
    have HIS := hide (fun W hW => ris_any W q g cap ts L vE vA vI vQ hW ho t i hs hl)
    have HPA := hide (fun W hW => rparts_any W q g cap ts L vE vA vI vQ hW ho t i wt hs hl)
    have hpk := parts_ok ho.F (w := wt) hs hl
    have hwr := wrongR_parts ts L t i wt
    obtain ⟨a, ha⟩ : ∃ a, a = rtok (tkAt ts i) := ⟨_, rfl⟩
    have HPO : Hid ((tkAt ts i).pos = a.pos) := hide (by rw [ha]; rfl)
    have HTC := hide (fun W hW => (h.toks.cells (wr := W) hW hil a ha))
    have HR := hide h
    have HIH := hide ih
    have HPK := hide hpk
    have j1 : (0 : Int) ≤ (i : Int) := by omega
    have j2 : (i : Int) < (ts.length : Int) := by omega
    have hps : (partsR ts t i wt).length ≤ 3 := by cases t <;> simp [partsR]
    generalize partsR ts t i wt = ps at HPA HPK hwr hps
    clear h hs hpk ih ha
    by_cases hb : badR ts L i wt = true
    · rw [hb, if_pos rfl] at hwr
      have hb' : isR ts L i ≠ 63 ∧ isR ts L i ≠ wt := by
        unfold badR at hb
        rw [Bool.and_eq_true, bne_iff_ne, bne_iff_ne] at hb
        exact hb
      have HWR : Hid (wrongR ts L t i wt = some a.pos) := hide (by rw [hwr, HPO.out])
      have q1 : ((isR ts L i : Int) != 63) = true := by rw [bne_iff_ne]; omega
      have q2 : ((isR ts L i : Int) != (wt : Int)) = true := by rw [bne_iff_ne]; omega
      generalize isR ts L i = r at q1 q2 HIS
      clear hwr hb hb'
      go_enter Try.func93, Try.ntmps93
      go_wp2_with fail
      refine (HIS.out w HR.out).mono ?_
      rintro e w1 ⟨rfl, hb1⟩
      have c0 := (HR.out.below hb1).c0
      have x2 := (HTC.out w1 hb1).2.2.1
      go_wp2
      go_ret
      exact ⟨by rw [HWR.out]; rfl, hb1⟩
    · have hbf : badR ts L i wt = false := by simpa using hb
      rw [hbf, if_neg (by simp)] at hwr
      have hcs : ((isR ts L i : Int) != 63) = false ∨ (((isR ts L i : Int) != 63) = true ∧ ((isR ts L i : Int) != (wt : Int)) = false) := by
        unfold badR at hbf
        by_cases e : isR ts L i = 63
        · left; rw [e]; rfl
        · right
          have e2 : isR ts L i = wt := by
            rw [Bool.and_eq_false_iff] at hbf
            rcases hbf with h | h
            · rw [bne_eq_false_iff_eq] at h; exact absurd h e
            · rw [bne_eq_false_iff_eq] at h; exact h
          exact ⟨by rw [bne_iff_ne]; omega, by rw [e2]; simp⟩
      have HWR := hide hwr
      generalize isR ts L i = r at hcs HIS
      clear hwr hb hbf
      rcases hcs with q1 | ⟨q1, q2⟩
      all_goals
        go_enter Try.func93, Try.ntmps93
        go_wp2_with fail
        refine (HIS.out w HR.out).mono ?_
        rintro e w1 ⟨rfl, hb1⟩
        go_wp2_with fail
        refine (HPA.out w1 (HR.out.below hb1)).mono ?_
        rintro e w2 ⟨vl, vw, rfl, hol, how, hb2⟩
        have hbw2 : Below w.heap.size w w2 := hb1.trans (hb2.mono hb1.size)
        obtain ⟨al, cl, rfl, hshl⟩ := own_shape hol
        obtain ⟨aw, cw, rfl, hshw⟩ := own_shape how
        have HL := hide (And.intro hol hshl)
        have HW := hide (And.intro how hshw)
        clear hol how hshl hshw hb1 hb2
        go_wp2
        go_loopw [10] (fun vk wx => ∃ m : Nat, m ≤ ps.length ∧ vk = .int .i64 m ∧ Below w2.heap.size w2 wx ∧ (ps.drop m).findSome? (fun p => wrongR ts L p.t p.i p.w) = wrongR ts L t i wt) (fun vk _ => ps.length - (intOf vk).toNat)
        case atStart => exact ⟨0, Nat.zero_le _, rfl, Below.refl _ _, HWR.out.symm⟩
        case round =>
          obtain ⟨m, hm, rfl, hbx, hrec⟩ := hrel
          have hbwx : Below w.heap.size w wr := hbw2.trans (hbx.mono hbw2.size)
          have HRP := hide (HR.out.below hbwx)
          by_cases hml : m < ps.length
          · obtain ⟨gl, rfl, _, hgl⟩ := HL.out.2 (by omega)
            obtain ⟨gw, rfl, _, hgw⟩ := HW.out.2 (by omega)
            obtain ⟨p, hp'⟩ : ∃ p, p = ps[m]'hml := ⟨_, rfl⟩
            obtain ⟨k1, k2, k3⟩ := HPK.out p (by rw [hp']; exact List.getElem_mem hml)
            have l1 : wr.cell? ⟨gl, m, none⟩ = some (.int .i64 (p.i : Int)) := by
              rw [hbx.cell (p := ⟨gl, m, none⟩) hgl, HL.out.1.cellAt m (by omega)]
              unfold pCells
              rw [List.getElem?_map, List.getElem?_map, List.getElem?_eq_getElem hml, ← hp']; rfl
            have l2 : wr.cell? ⟨gw, m, none⟩ = some (.int .u8 (p.w : Int)) := by
              rw [hbx.cell (p := ⟨gw, m, none⟩) hgw, HW.out.1.cellAt m (by omega)]
              unfold wCells
              rw [List.getElem?_map, List.getElem?_map, List.getElem?_eq_getElem hml, ← hp']; rfl
            rw [List.drop_eq_getElem_cons hml, ← hp', List.findSome?_cons] at hrec
            have HRC := hide hrec
            have j3 : (0 : Int) ≤ (m : Int) := by omega
            have j4 : (m : Int) < (ps.length : Int) := by omega
            have HCALL := hide (fun W hW => HIH.out p.t p.i p.w W (by omega) hW k1 k2)
            have HV : Hid (∀ v, wrongR ts L p.t p.i p.w = some v → wrongR ts L t i wt = some v) := hide (fun v hv => by
              have h := HRC.out
              rw [hv] at h
              exact h.symm)
            have HN : Hid (wrongR ts L p.t p.i p.w = none → (ps.drop (m + 1)).findSome? (fun p => wrongR ts L p.t p.i p.w) = wrongR ts L t i wt) := hide (fun hv => by
              have h := HRC.out
              rw [hv] at h
              exact h)
            generalize wrongR ts L p.t p.i p.w = o at HCALL HV HN
            generalize p.i = pi at l1 HCALL
            generalize p.w = pw at l2 HCALL
            clear hrec hp' k1 k2 k3 HRC
            have g1 : gl < wr.heap.size := by have := hbx.size; omega
            have g2' : gw < wr.heap.size := by have := hbx.size; omega
            go_wp2_with fail
            go_region_held3 (fun w' => w'.cell? ⟨gl, m, none⟩ = some (.int .i64 (pi : Int)) ∧ w'.cell? ⟨gw, m, none⟩ = some (.int .u8 (pw : Int))) (go_keep)
              ((go_at_call 93; refine (HCALL.out _ (HRP.out.below ((Below.refl _ _).drew))).mono ?_; rintro e w3 ⟨rfl, hb3⟩; have t1 := (hb3.cell (p := ⟨gl, m, none⟩) g1).trans l1; have t2 := (hb3.cell (p := ⟨gw, m, none⟩) g2').trans l2))
            rename_i hHeld
            clear hHeld
            have HB3 : Hid (Below w2.heap.size w2 w3) := hide (hbx.drew.trans (hb3.mono hbx.size))
            have HB4 : Hid (Below w.heap.size w w3) := hide (hbwx.drew.trans (hb3.mono hbwx.size))
            clear hb3 t1 t2
            cases o with
            | none =>
              have HN2 := hide (HN.out rfl)
              simp only [optI]
              clear HV HN HCALL
              go_wp2
              go_roundw
              case rel => exact ⟨m + 1, by omega, by go_num, HB3.out, HN2.out⟩
              case measure => simp [intOf]; omega
            | some v =>
              have HV2 := hide (HV.out v rfl)
              simp only [optI]
              have z1 : (0 : Int) ≤ (v : Int) := by omega
              clear HV HN HCALL
              go_wp2
              go_ret
              exact ⟨by rw [HV2.out]; rfl, HB4.out⟩
          · have em : m = ps.length := by omega
            subst em
            rw [List.drop_length] at hrec
            have HRC : Hid (wrongR ts L t i wt = none) := hide hrec.symm
            have z1 : ¬ (ps.length : Int) < (ps.length : Int) := by omega
            clear hrec
            go_wp2
            go_ret
            exact ⟨by rw [HRC.out]; rfl, hbwx⟩

end Go.Proofs.Ytmndgoapkmhglab
