import Derived.Test.Ytmndgoapkmhglabc15RefHa
import Derived.Test.Ytmndgoapkmhglabc16RefH
import Derived.Test.Ytmndgoapkmhglabc24JudM
import Derived.Test.Ytmndgoapkmhglabc32RefK
import Derived.Test.Ytmndgoapkmhglabc34RefT
import Derived.Test.Ytmndgoapkmhglabc35RefV
import Derived.Test.Ytmndgoapkmhglabc41AcC
import Derived.Test.Ytmndgoapkmhglabc42PVal
namespace Go.Proofs.Ytmndgoapkmhglab
open Go.RowKit
attribute [local go_sem ↓] Go.wp_at_zero Go.wp_at_succ

theorem routes_in {ts : List Tk} {L : List Dl} : ∀ (l : List Dl) (b : Nat), ∀ r ∈ routesFrom ts L b l, r.src < b + l.length ∧ r.dst < 4 := by
  have hto : ∀ b x k, ∀ r ∈ routeTo ts L b x k, r.src = b ∧ r.dst < k := by
    intro b x k
    induction k with
    | zero => intro r hr; simp [routeTo] at hr
    | succ k ih =>
      intro r hr
      simp only [routeTo, List.mem_append] at hr
      rcases hr with hr | hr
      · have := ih r hr; exact ⟨this.1, by omega⟩
      · unfold routeAt at hr
        split at hr
        · simp at hr; subst hr; exact ⟨rfl, Nat.lt_succ_self _⟩
        · simp at hr
  intro l
  induction l with
  | nil => intro b r hr; simp [routesFrom] at hr
  | cons x l ih =>
    intro b r hr
    simp only [routesFrom, List.mem_append] at hr
    rw [List.length_cons]
    rcases hr with hr | hr
    · have := hto b x 4 r hr; exact ⟨by omega, this.2⟩
    · have := ih (b + 1) r hr; exact ⟨by omega, this.2⟩

theorem rt_later {w wr : World} {B g cap : Nat} {l : List Rt} (h : w.ownsRow B 89 3 (.slice (some ⟨g, 0, none⟩) l.length cap) l.length (rtCells l)) (hb : wr.heap[g]? = w.heap[g]?) {k : Nat} (hk : k < l.length) (r : Rt) (hr : r = l[k]'hk) :
    wr.cell? ⟨g, k * 3, none⟩ = some (.int .i64 (r.src : Int)) ∧ wr.cell? ⟨g, k * 3 + 1, none⟩ = some (.int .i64 (r.dst : Int)) ∧ wr.cell? ⟨g, k * 3 + 2, none⟩ = some (.bool r.late) := by
  have hcr : ∀ j, j < 3 → wr.cell? ⟨g, k * 3 + j, none⟩ = r.cells[j]? := fun j hj => by
    rw [World.cell?_of_block (w := w) (a := ⟨g, k * 3 + j, none⟩) hb, h.cellAt (k * 3 + j) (by omega)]
    have e := flat_get Rt.cells 3 rt_len l k j hk hj
    rw [← hr] at e
    exact e
  exact ⟨hcr 0 (by omega), hcr 1 (by omega), hcr 2 (by omega)⟩

set_option maxHeartbeats 2000000 in
set_option maxRecDepth 100000 in
theorem rwaits_any (w : World) (q g cap : Nat) (ts : List Tk) (L : List Dl) (vE vA vI vQ : Value) (h : RProg w q g cap ts L vE vA vI vQ) (ho : ROk ts L) :
    Calls Try.prog 36 #[.pointer (some ⟨q, 0, none⟩)] w fun e w' => ∃ (g2 cap2 : Nat) (R : Nat → Nat), e = .returned (.slice (some ⟨g2, 0, none⟩) 4 cap2) ∧ Mat w' g2 4 R (waitsP ((eqL L).map (placeD ts)) (routesR ts L) noM) ∧ (∀ i, i < 4 → w.heap.size ≤ R i) ∧ w.heap.size ≤ g2 ∧ Below w.heap.size w w' := by
  obtain ⟨hm1, hm2, hm3⟩ := ho.many
  obtain ⟨av, cv, rfl, hsh⟩ := own_shape h.eqs
  have HR := hide h
  have HO := hide ho
  have HSH := hide hsh
  clear h ho hsh
  go_enter Try.func36, Try.ntmps36
  go_wp2_with fail
  refine (rsquare_any w 4 (by omega)).mono ?_
  rintro e w1 ⟨v, rs, rfl, hrl, hown, hrows, hnd, hb1⟩
  obtain ⟨a, g2, cap2, R, rfl, hag, hmat, hRB, hg2⟩ := square_mat hrl hown hrows hnd
  have hag' := hag (by omega)
  subst hag'
  have HRB := hide hRB
  have HM1 := hide hmat
  have HRP1 := hide (HR.out.below hb1)
  clear hrl hown hrows hnd hag hmat hRB
  go_wp2_with fail
  refine (rroutes_any w1 q g cap ts L _ _ _ _ HRP1.out HO.out).mono ?_
  rintro e2 w2 ⟨vl, rfl, hol, hll, hb2⟩
  obtain ⟨al, cl, rfl, hshl⟩ := own_shape hol
  have hin := routes_in (ts := ts) (L := L) (eqL L) 0
  have hbw2 : Below w.heap.size w w2 := hb1.trans (hb2.mono hb1.size)
  have HM2 : Hid (Mat w2 g2 4 R noM) := hide (HM1.out.keep (hb2.block g2 (HM1.out.lt (by omega))) (fun i hi => hb2.block (R i) (World.rowIs.lt (HM1.out.rows i hi))))
  have HNE : Hid (∀ gl, al = some ⟨gl, 0, none⟩ → 0 < (routesR ts L).length → gl < w2.heap.size ∧ ∀ i, i < 4 → R i ≠ gl) := hide (fun gl hgl hp => by
    obtain ⟨gg, e1, h1, h2⟩ := hshl hp
    rw [e1] at hgl
    cases hgl
    exact ⟨h2, fun i hi => by have := World.rowIs.lt (HM1.out.rows i hi); omega⟩)
  have HIN : Hid (∀ r ∈ routesR ts L, r.src < (eqL L).length ∧ r.dst < 4) := hide (fun r hr => by have := hin r hr; exact ⟨by omega, this.2⟩)
  have HOL := hide (And.intro hol hshl)
  generalize hRS : routesR ts L = rsl at HNE HIN HOL hll
  have HRS := hide hRS
  clear hin hol hshl hb1 hb2 HM1 HRP1 hRS
  go_wp2
  go_loopw [5] (fun vi wx => ∃ (m : Nat) (M : Mx), m ≤ rsl.length ∧ vi = .int .i64 m ∧ Mat wx g2 4 R M ∧ Below w.heap.size w wx ∧ (∀ gl, al = some ⟨gl, 0, none⟩ → 0 < rsl.length → wx.heap[gl]? = w2.heap[gl]?) ∧ waitsP ((eqL L).map (placeD ts)) (rsl.drop m) M = waitsP ((eqL L).map (placeD ts)) rsl noM) (fun vi _ => rsl.length - (intOf vi).toNat)
  case atStart => exact ⟨0, noM, Nat.zero_le _, rfl, HM2.out, hbw2, fun _ _ _ => rfl, rfl⟩
  case round =>
    clear HM2 hbw2
    obtain ⟨m, M, hm, rfl, hmat, hbel, hkeep, hrec⟩ := hrel
    by_cases hml : m < rsl.length
    · obtain ⟨gl, rfl, _, hgl⟩ := HOL.out.2 (by omega)
      obtain ⟨r, hr⟩ : ∃ r, r = rsl[m]'hml := ⟨_, rfl⟩
      obtain ⟨hs1, hd1⟩ := HIN.out r (by rw [hr]; exact List.getElem_mem hml)
      obtain ⟨x0, x1, x2⟩ := rt_later HOL.out.1 (hkeep gl rfl (by omega)) hml r hr
      obtain ⟨gq, rfl, _, hgq2⟩ := HSH.out (by omega)
      obtain ⟨x, hx⟩ : ∃ x, x = (eqL L)[r.src]'hs1 := ⟨_, rfl⟩
      obtain ⟨_, hxk, _, _, hxp⟩ := HO.out.eq (x := x) (by rw [hx]; exact List.getElem_mem hs1)
      have c4 := (HR.out.below hbel).c4
      have y4 := (rd_later HR.out.eqs hbel hgq2 hs1 (rdc ts x) (by rw [hx])).2.2.2.2.1
      rw [(rdc_truth ts hxk).2.2] at y4
      have hpl : ((eqL L).map (placeD ts)).getD r.src 0 = placeD ts x := by
        rw [List.getD_eq_getElem?_getD, List.getElem?_map, List.getElem?_eq_getElem hs1, ← hx]; rfl
      rw [List.drop_eq_getElem_cons hml, ← hr] at hrec
      simp only [waitsP] at hrec
      rw [hpl] at hrec
      have o1 := hmat.outer r.dst hd1
      have o2 := hmat.cell hd1 hxp
      have o3 := hmat.froz hd1 (placeD ts x)
      have HMAT := hide hmat
      have HRC := hide hrec
      have HKP := hide hkeep
      have HBF := hide (HRB.out r.dst hd1)
      have HNG := hide ((HNE.out gl rfl (by omega)).2 r.dst hd1)
      obtain ⟨src, dst, late⟩ := r
      simp only at hs1 hd1 x0 x1 x2 o1 o2 o3 y4 hxp HRC HBF HNG
      generalize placeD ts x = pl at y4 o2 o3 HRC hxp
      have d1 : (0 : Int) ≤ (m : Int) := by omega
      have d2 : (m : Int) < (rsl.length : Int) := by omega
      have d3 : (0 : Int) ≤ (src : Int) := by omega
      have d4 : (src : Int) < ((eqL L).length : Int) := by omega
      have d5 : (0 : Int) ≤ (dst : Int) := by omega
      have d6 : (dst : Int) < 4 := by omega
      have d7 : (0 : Int) ≤ (pl : Int) := by omega
      have d8 : (pl : Int) < 4 := by omega
      clear hr hx hxk hpl hrec hmat hkeep
      cases late
      · have HN2 : Hid (waitsP ((eqL L).map (placeD ts)) (rsl.drop (m + 1)) (upd M dst pl true) = waitsP ((eqL L).map (placeD ts)) rsl noM) := hide (by rw [← HRC.out]; simp)
        clear HRC
        go_wp2_with fail
        go_big_region
        go_wp2
        go_roundw
        case rel =>
          refine ⟨m + 1, upd M dst pl true, by omega, by go_num, (HMAT.out.set hd1 pl true).drew, (hbel.setCell HBF.out _).drew, fun gl' hg' hp' => ?_, HN2.out⟩
          cases hg'
          exact (heap_setCell_other wr ⟨R dst, pl, none⟩ gl _ (Ne.symm HNG.out)).trans (HKP.out gl rfl hp')
        case measure => simp [intOf]; omega
      · have HN2 : Hid (waitsP ((eqL L).map (placeD ts)) (rsl.drop (m + 1)) M = waitsP ((eqL L).map (placeD ts)) rsl noM) := hide (by rw [← HRC.out]; simp)
        clear HRC
        go_wp2
        go_roundw
        case rel => exact ⟨m + 1, M, by omega, by go_num, HMAT.out, hbel, HKP.out, HN2.out⟩
        case measure => simp [intOf]; omega
    · have em : m = rsl.length := by omega
      subst em
      rw [List.drop_length] at hrec
      have HMM : Hid (Mat wr g2 4 R (waitsP ((eqL L).map (placeD ts)) rsl noM)) := hide (by rw [← hrec]; exact hmat)
      have z1 : ¬ (rsl.length : Int) < (rsl.length : Int) := by omega
      clear hrec hmat hkeep
      go_wp2
      go_ret
      exact ⟨g2, ⟨cap2, rfl⟩, R, by rw [HRS.out]; exact HMM.out, HRB.out, hg2, hbel⟩

end Go.Proofs.Ytmndgoapkmhglab

namespace Go.Proofs.Ytmndgoapkmhglab
open Go.RowKit
attribute [local go_sem ↓] Go.wp_at_zero Go.wp_at_succ

set_option maxHeartbeats 2000000 in
set_option maxRecDepth 100000 in
theorem rloop_any (w : World) (q g cap : Nat) (ts : List Tk) (L : List Dl) (vE vA vI vQ : Value) (h : RProg w q g cap ts L vE vA vI vQ) (ho : ROk ts L) :
    Calls Try.prog 64 #[.pointer (some ⟨q, 0, none⟩)] w fun e w' => e = .returned (optI (lpR ts L)) ∧ Below w.heap.size w w' := by
  obtain ⟨hm1, hm2, hm3⟩ := ho.many
  obtain ⟨av, cv, rfl, hsh⟩ := own_shape h.eqs
  have HR := hide h
  have HO := hide ho
  have HSH := hide hsh
  clear h ho hsh
  go_enter Try.func64, Try.ntmps64
  go_wp2_with fail
  refine (rwaits_any w q g cap ts L _ _ _ _ HR.out HO.out).mono ?_
  rintro e w1 ⟨g2, cap2, R, rfl, hmat, hRB, hg2, hb1⟩
  have HCY : Hid (firstP ts (warsh (waitsP ((eqL L).map (placeD ts)) (routesR ts L) noM) 4) ((eqL L).drop 0) = lpR ts L) := hide rfl
  generalize waitsP ((eqL L).map (placeD ts)) (routesR ts L) noM = WM at hmat HCY
  have HMR := hide hmat
  have HRB := hide hRB
  clear hmat hRB
  go_wp2_with fail
  refine (rcircles_any w1 (some ⟨g2, 0, none⟩) g2 4 cap2 w.heap.size R WM HMR.out (fun _ => rfl) (by omega) hb1.size HRB.out).mono ?_
  rintro e2 w2 ⟨G, rfl, hG, hrow, hb2⟩
  have hbel2 : Below w.heap.size w w2 := hb1.trans hb2
  generalize warsh WM 4 = W at hrow HCY
  have c4'' := (HR.out.below hbel2).c4
  have HROW := hide hrow
  clear hrow hb2 hb1 HMR
  go_wp2
  go_loopw [5] (fun i wx => ∃ m : Nat, m ≤ (eqL L).length ∧ i = .int .i64 m ∧ wx.rowIs G 4 4 (fun i => .bool (W i i)) ∧ Below w.heap.size w wx ∧ firstP ts W ((eqL L).drop m) = lpR ts L) (fun i _ => (eqL L).length - (intOf i).toNat)
  case atStart => exact ⟨0, Nat.zero_le _, rfl, HROW.out, hbel2, HCY.out⟩
  case round =>
    clear HROW hbel2 c4'' HCY
    obtain ⟨m, hm, rfl, hrow, hbel, hrec⟩ := hrel
    have c4 := (HR.out.below hbel).c4
    by_cases hml : m < (eqL L).length
    · obtain ⟨gq, rfl, _, hgq2⟩ := HSH.out (by omega)
      obtain ⟨x, hx⟩ : ∃ x, x = (eqL L)[m]'hml := ⟨_, rfl⟩
      obtain ⟨hxm, hxk, _, _, hxp⟩ := HO.out.eq (x := x) (by rw [hx]; exact List.getElem_mem hml)
      have ht := HO.out.tok hxm
      have hpos := rdc_pos ts x
      obtain ⟨y0, y1, y2, y3, y4, y5⟩ := rd_later HR.out.eqs hbel hgq2 hml (rdc ts x) (by rw [hx])
      have hdp : (rdc ts x).place = placeD ts x := (rdc_truth ts hxk).2.2
      rw [List.drop_eq_getElem_cons hml, ← hx] at hrec
      simp only [firstP] at hrec
      have r1 := hrow.cell hxp
      rw [← hdp] at hrec r1 hxp
      have HRC := hide hrec
      have HRW := hide hrow
      have HRP := hide (HR.out.below hbel)
      have HPX := hide hpos
      have HTX := hide ht
      have j3 : (0 : Int) ≤ (m : Int) := by omega
      have j4 : (m : Int) < ((eqL L).length : Int) := by omega
      generalize rdc ts x = d at y0 y1 y2 y3 y4 y5 HPX HTX HRC r1 hxp
      have j5 : (0 : Int) ≤ (d.place : Int) := by omega
      have j6 : (d.place : Int) < 4 := by omega
      generalize W d.place d.place = b at r1 HRC
      clear hrec hrow hxm ht hx hpos hdp hxk
      cases b
      · have HR2 : Hid (firstP ts W ((eqL L).drop (m + 1)) = lpR ts L) := hide (by rw [← HRC.out]; simp)
        clear HRC
        go_wp2
        go_roundw
        case rel => exact ⟨m + 1, by omega, by go_num, by first | exact HRW.out | exact HRW.out.of_block rfl, by first | exact hbel | exact below_drewN hbel _, HR2.out⟩
        case measure => simp [intOf]; omega
      · have HR2 : Hid (lpR ts L = some (posD ts x)) := hide (by rw [← HRC.out]; simp)
        clear HRC
        go_wp2_with fail
        refine (rplace_any _ q g cap ts L _ _ _ _ HRP.out d HTX.out).mono ?_
        rintro e3 w3 ⟨rfl, hb3⟩
        rw [HPX.out]
        go_wp2
        go_ret
        exact ⟨by rw [HR2.out]; rfl, hbel.trans (hb3.mono hbel.size)⟩
    · have em : m = (eqL L).length := by omega
      subst em
      rw [List.drop_length] at hrec
      have HRC := hide hrec
      have z2 : ¬ ((eqL L).length : Int) < ((eqL L).length : Int) := by omega
      clear hrec hrow
      go_wp2
      go_ret
      exact ⟨by rw [← HRC.out]; rfl, hbel⟩

end Go.Proofs.Ytmndgoapkmhglab

namespace Go.Proofs.Ytmndgoapkmhglab
open Go.RowKit
attribute [local go_sem ↓] Go.wp_at_zero Go.wp_at_succ

/-- a program that has been laid, as its readers have it. -/
theorem RPV.prog {w' : World} {B q g cap : Nat} {ts : List Tk} {L : List Dl} {R : Nat → Rw} (h : RPV w' B q (.slice (some ⟨g, 0, none⟩) ts.length cap) R) (ht : TokAt w' g cap ts)
    (h1 : (R 1).e = 3 ∧ (R 1).sz = 1 ∧ (R 1).n = ts.length ∧ (R 1).xs = pCells ((List.range ts.length).map (behindF ts)))
    (h2 : (R 2).e = 115 ∧ (R 2).sz = 6 ∧ (R 2).n = L.length ∧ (R 2).xs = rdCells (L.map (rdc ts)))
    (h3 : (R 3).e = 115 ∧ (R 3).sz = 6 ∧ (R 3).n = (inL L).length ∧ (R 3).xs = rdCells ((inL L).map (rdc ts)))
    (h4 : (R 4).e = 115 ∧ (R 4).sz = 6 ∧ (R 4).n = (eqL L).length ∧ (R 4).xs = rdCells ((eqL L).map (rdc ts))) :
    RProg w' q g cap ts L (R 1).v (R 2).v (R 3).v (R 4).v := by
  have o1 := own_zero (h.own 1)
  have o2 := own_zero (h.own 2)
  have o3 := own_zero (h.own 3)
  have o4 := own_zero (h.own 4)
  rw [h1.1, h1.2.1, h1.2.2.1, h1.2.2.2] at o1
  rw [h2.1, h2.2.1, h2.2.2.1, h2.2.2.2] at o2
  rw [h3.1, h3.2.1, h3.2.2.1, h3.2.2.2] at o3
  rw [h4.1, h4.2.1, h4.2.2.1, h4.2.2.2] at o4
  exact ⟨h.lt, cell_of_row w' q 0 _ _ _ h.blk, cell_of_row w' q 1 _ _ _ h.blk, cell_of_row w' q 2 _ _ _ h.blk, cell_of_row w' q 3 _ _ _ h.blk, cell_of_row w' q 4 _ _ _ h.blk, ht, o1, o2, o3, o4⟩

/-- what a reading gives. -/
def ReadOk (s : ByteArray) (w : World) (p : Value) (w' : World) : Prop :=
  Below w.heap.size w w' ∧ ((textF s).1 = 0 → ∃ (q g cap : Nat) (L : List Dl) (vE vA vI vQ : Value), p = .pointer (some ⟨q, 0, none⟩) ∧ RProg w' q g cap (toks s) L vE vA vI vQ ∧ ROk (toks s) L ∧ RGood s L)

set_option maxHeartbeats 2000000 in
set_option maxRecDepth 100000 in
theorem rread_any (s : ByteArray) (w : World) :
    Calls Try.prog 34 #[.string s] w fun e w' => ∃ p, e = .returned (.tuple #[p, .int .i64 ((textF s).1 : Int), .int .i64 ((textF s).2 : Int)]) ∧ ReadOk s w p w' := by
  by_cases hs : s.size ≤ 1500
  case neg =>
    have ht : textF s = (1, 0) := by unfold textF; rw [if_pos (by omega)]
    have HT := hide ht
    have z1 : (1500 : Int) < (s.size : Int) := by omega
    clear ht
    go_enter Try.func34, Try.ntmps34
    go_wp2
    go_ret3
    exact ⟨_, by rw [HT.out]; rfl, Below.refl _ _, fun h => by rw [HT.out] at h; cases h⟩
  have z1 : ¬ (1500 : Int) < (s.size : Int) := by omega
  have hok := toks_ok s hs
  have hF := toks_F s
  have hE := toks_end s
  have hp : ∀ i, (tkAt (toks s) i).pos ≤ 1500 := fun i => Nat.le_trans (pos_le s i) hs
  have HREF := hide (text_read s hs)
  have HTS := hide (fun W => rtokens_any s W hs)
  have hrl : (rtoks s).length = (toks s).length := by unfold rtoks; rw [List.length_map]
  have HFE := hide (And.intro hF (And.intro hE (And.intro hp hok)))
  have HRL := hide hrl
  clear hF hE hp hok hrl
  go_enter Try.func34, Try.ntmps34
  go_wp2_with fail
  refine (HTS.out w).mono ?_
  rintro e w1 ⟨v, rfl, hown, hb1⟩
  rw [HRL.out] at hown
  obtain ⟨g, cap, rfl, hg1, hg2⟩ := hown.form HFE.out.2.2.2.pos
  have HTK : Hid (TokAt w1 g cap (toks s)) := hide ⟨own_zero hown, hg2⟩
  clear hown HTS
  rcases HREF.out with ⟨k, hkl, ht, n, hans⟩ | ⟨L, hsp, ⟨n, hans⟩, ht, hpar⟩
  · have HT := hide ht
    have HAN := hide hans
    have hpk := HFE.out.2.2.1 k
    generalize (tkAt (toks s) k).pos = ps at HT HAN hpk
    have z2 : (0 : Int) ≤ (ps : Int) := by omega
    clear ht hans HREF
    go_wp2_with fail
    refine (stands_any (toks s) n (ps : Int) w1 g cap HTK.out HFE.out.1 HFE.out.2.2.2.1 HAN.out).mono ?_
    rintro e2 w2 ⟨rfl, hb2⟩
    have HB := hide (hb1.trans (hb2.mono hb1.size))
    clear hb1 hb2
    go_wp2
    go_ret3
    exact ⟨_, by rw [HT.out]; rfl, HB.out, fun h => by rw [HT.out] at h; cases h⟩
  · have HT := hide ht
    have HAN := hide hans
    have HOK : Hid (ROk (toks s) L) := hide ⟨HFE.out.1, HFE.out.2.1, HFE.out.2.2.2.1, HFE.out.2.2.2.pos, hsp⟩
    have HSP := hide hsp
    have HPAR := hide hpar
    clear ht hans HREF hsp hpar
    go_wp2_with fail
    refine (stands_any (toks s) n (-1) w1 g cap HTK.out HFE.out.1 HFE.out.2.2.2.1 HAN.out).mono ?_
    rintro e2 w2 ⟨rfl, hb2⟩
    have hbw2 : Below w.heap.size w w2 := hb1.trans (hb2.mono hb1.size)
    have HTK2 := hide (HTK.out.below hb2)
    clear hb1 hb2 HTK
    go_wp2_with fail
    refine (program_any (toks s) L w2 g cap HTK2.out HFE.out.1 HFE.out.2.1 HFE.out.2.2.2.1 HSP.out).mono ?_
    rintro e3 w3 ⟨rfl, R, hrp, r1, r2, r3, r4, hb3⟩
    have hbw3 : Below w.heap.size w w3 := hbw2.trans (hb3.mono hbw2.size)
    have HRP := hide (hrp.prog (HTK2.out.below hb3) r1 r2 r3 r4)
    generalize w2.heap.size = q at HRP ⊢
    generalize (R 1).v = vE at HRP
    generalize (R 2).v = vA at HRP
    generalize (R 3).v = vI at HRP
    generalize (R 4).v = vQ at HRP
    clear hrp r1 r2 r3 r4 hb3 hbw2 HTK2
    go_wp2_with fail
    refine (rmany_any w3 q g cap (toks s) L vE vA vI vQ HRP.out HOK.out HFE.out.2.2.1).mono ?_
    rintro e4 w4 ⟨rfl, hb4⟩
    have HRP4 := hide (HRP.out.below hb4)
    have hbw4 : Below w.heap.size w w4 := hbw3.trans (hb4.mono hbw3.size)
    clear hb4 hbw3 HRP
    cases h1 : manyR (toks s) L with
    | some a =>
      have HF : Hid (textF s = (3, a)) := hide (by rw [HT.out]; unfold readR; rw [h1])
      simp only [optI]
      have z2 : (0 : Int) ≤ (a : Int) := by omega
      clear h1
      go_wp2
      go_ret3
      exact ⟨_, by rw [HF.out]; rfl, hbw4, fun h => by rw [HF.out] at h; cases h⟩
    | none =>
      have H1 := hide h1
      simp only [optI]
      clear h1
      go_wp2_with fail
      refine (rnames_any w4 q g cap (toks s) L vE vA vI vQ HRP4.out HOK.out HFE.out.2.2.1).mono ?_
      rintro e5 w5 ⟨rfl, hb5⟩
      have HRP5 := hide (HRP4.out.below hb5)
      have hbw5 : Below w.heap.size w w5 := hbw4.trans (hb5.mono hbw4.size)
      clear hb5 hbw4 HRP4
      cases h2 : namesR (toks s) L with
      | some a =>
        have HF : Hid (textF s = (4, a)) := hide (by rw [HT.out]; unfold readR; rw [H1.out]; simp only; rw [h2])
        simp only [optI]
        have z2 : (0 : Int) ≤ (a : Int) := by omega
        clear h2
        go_wp2
        go_ret3
        exact ⟨_, by rw [HF.out]; rfl, hbw5, fun h => by rw [HF.out] at h; cases h⟩
      | none =>
        have H2 := hide h2
        simp only [optI]
        clear h2
        go_wp2_with fail
        refine (rtypes_any w5 q g cap (toks s) L vE vA vI vQ HRP5.out HOK.out HFE.out.2.2.1).mono ?_
        rintro e6 w6 ⟨rfl, hb6⟩
        have HRP6 := hide (HRP5.out.below hb6)
        have hbw6 : Below w.heap.size w w6 := hbw5.trans (hb6.mono hbw5.size)
        clear hb6 hbw5 HRP5
        cases h3 : typesR (toks s) L with
        | some a =>
          have HF : Hid (textF s = (5, a)) := hide (by rw [HT.out]; unfold readR; rw [H1.out]; simp only; rw [H2.out]; simp only; rw [h3])
          simp only [optI]
          have z2 : (0 : Int) ≤ (a : Int) := by omega
          clear h3
          go_wp2
          go_ret3
          exact ⟨_, by rw [HF.out]; rfl, hbw6, fun h => by rw [HF.out] at h; cases h⟩
        | none =>
          have H3 := hide h3
          simp only [optI]
          clear h3
          go_wp2_with fail
          refine (rcycle_any w6 q g cap (toks s) L vE vA vI vQ HRP6.out HOK.out).mono ?_
          rintro e7 w7 ⟨rfl, hb7⟩
          have HRP7 := hide (HRP6.out.below hb7)
          have hbw7 : Below w.heap.size w w7 := hbw6.trans (hb7.mono hbw6.size)
          clear hb7 hbw6 HRP6
          cases h4 : cycR (toks s) L with
          | some a =>
            have HF : Hid (textF s = (6, a)) := hide (by rw [HT.out]; unfold readR; rw [H1.out]; simp only; rw [H2.out]; simp only; rw [H3.out]; simp only; rw [h4])
            simp only [optI]
            have z2 : (0 : Int) ≤ (a : Int) := by omega
            clear h4
            go_wp2
            go_ret3
            exact ⟨_, by rw [HF.out]; rfl, hbw7, fun h => by rw [HF.out] at h; cases h⟩
          | none =>
            have H4 := hide h4
            simp only [optI]
            clear h4
            go_wp2_with fail
            refine (rloop_any w7 q g cap (toks s) L vE vA vI vQ HRP7.out HOK.out).mono ?_
            rintro e8 w8 ⟨rfl, hb8⟩
            have HRP8 := hide (HRP7.out.below hb8)
            have hbw8 : Below w.heap.size w w8 := hbw7.trans (hb8.mono hbw7.size)
            clear hb8 hbw7 HRP7
            cases h5 : lpR (toks s) L with
            | some a =>
              have HF : Hid (textF s = (7, a)) := hide (by rw [HT.out]; unfold readR; rw [H1.out]; simp only; rw [H2.out]; simp only; rw [H3.out]; simp only; rw [H4.out]; simp only; rw [h5])
              simp only [optI]
              have z2 : (0 : Int) ≤ (a : Int) := by omega
              clear h5
              go_wp2
              go_ret3
              exact ⟨_, by rw [HF.out]; rfl, hbw8, fun h => by rw [HF.out] at h; cases h⟩
            | none =>
              have HF : Hid (textF s = (0, 0)) := hide (by rw [HT.out]; unfold readR; rw [H1.out]; simp only; rw [H2.out]; simp only; rw [H3.out]; simp only; rw [H4.out]; simp only; rw [h5])
              have H5 := hide h5
              simp only [optI]
              clear h5
              go_wp2
              go_ret3
              exact ⟨_, by rw [HF.out]; rfl, hbw8, fun _ => ⟨q, g, cap, L, vE, vA, vI, vQ, rfl, HRP8.out, HOK.out, ⟨H1.out, H2.out, H3.out, H4.out, H5.out, HSP.out, HPAR.out⟩⟩⟩

end Go.Proofs.Ytmndgoapkmhglab
