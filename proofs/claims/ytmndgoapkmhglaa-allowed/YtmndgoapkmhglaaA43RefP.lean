import Derived.Test.YtmndgoapkmhglaaA30RefN
import Derived.Test.YtmndgoapkmhglaaA31StrG
import Derived.Test.YtmndgoapkmhglaaA42RefV
namespace Go.Proofs.Ytmndgoapkmhglaa
open Go.RowKit
attribute [local go_sem ↓] Go.wp_at_zero Go.wp_at_succ

def rowSl (n : Nat) (rs : List Nat) : List Value := rs.map fun r => Value.slice (some ⟨r, 0, none⟩) n n
theorem rowSl_snoc (n : Nat) (rs : List Nat) (r : Nat) : rowSl n (rs ++ [r]) = rowSl n rs ++ [.slice (some ⟨r, 0, none⟩) n n] := by simp [rowSl]

set_option maxHeartbeats 1000000 in
set_option maxRecDepth 100000 in
theorem rsquare_any (w : World) (n : Nat) (hn : n ≤ 1501) :
    Calls Try.prog 114 #[.int .i64 (n : Int)] w fun e w' => ∃ (v : Value) (rs : List Nat), e = .returned v ∧ rs.length = n ∧ w'.ownsRow w.heap.size 175 1 v n (rowSl n rs) ∧
      (∀ r ∈ rs, w.heap.size ≤ r ∧ v.ownBlock ≠ some r ∧ w'.rowIs r 4 n (fun _ => .bool false)) ∧ rs.Nodup ∧ Below w.heap.size w w' := by
  obtain ⟨i0, hi0, hz0, hz1, hz2⟩ := info_parts Try.infoBools
  have hm2 := run_make_row' (P := Try.prog) 175 4 (.bool false) 1 Try.underlying175 Try.infoBool rfl .i64 .i64 n (by omega) (by omega)
  go_enter Try.func114, Try.ntmps114
  go_wp2
  go_loopw [3, 4] (fun v i wr => ∃ (k : Nat) (rs : List Nat), k ≤ n ∧ i = .int .i64 k ∧ rs.length = k ∧ wr.ownsRow w.heap.size 175 1 v k (rowSl n rs) ∧
      (∀ r ∈ rs, w.heap.size ≤ r ∧ v.ownBlock ≠ some r ∧ wr.rowIs r 4 n (fun _ => .bool false)) ∧ rs.Nodup ∧ Below w.heap.size w wr) (fun _ i _ => n - (intOf i).toNat)
  case atStart => exact ⟨0, [], Nat.zero_le _, rfl, rfl, World.ownsRow_nil _ _ _ _, fun r hr => by simp at hr, List.nodup_nil, Below.refl _ _⟩
  case round =>
    obtain ⟨k, rs, hk, rfl, hrl, hown, hrows, hnd, hbel⟩ := hrel
    have HRL := hide hrl
    have HRW := hide hrows
    have HND := hide hnd
    have hbs := hbel.size
    clear hrl hrows hnd
    by_cases hlt : k < n
    · have HOV := hide hown.lt
      go_wp2_with (at_builtin; refine wpList_append_lies _ rfl _ _ _ rfl w.heap.size 175 i0 _ 1 24 Try.underlying172 hi0 hz0 hz1 hz2 rfl (by omega) _ k (rowSl n rs) rfl ((hown.alloc _).alloc _) ⟨wr.heap.size + 1, 0, none⟩ 1 1 [.slice (some ⟨wr.heap.size, 0, none⟩) n n] rfl rfl (World.news_of_block (cs := #[.slice (some ⟨wr.heap.size, 0, none⟩) n n]) (t := 175) (fr := (0, 0)) (by have := heap_alloc_new (wr.alloc (.cells (madeCells #[.bool false] n) 4)) (.cells #[.slice (some ⟨wr.heap.size, 0, none⟩) n n] 175); simpa using this)) (by simp [Value.oneCell']) (by omega) (by unfold maxLen; omega) (by omega) (by simp; omega) (wr.heap.size + 2) (by simp) ?_; intro gg cap2 w3 hown3 hgrow hat hlt3)
      go_roundw
      case rel =>
        have hsz3 := hgrow.size
        simp at hsz3
        have hnr : ∀ r ∈ rs, r < wr.heap.size := fun r hr => World.rowIs.lt (HRW.out r hr).2.2
        refine ⟨k + 1, rs ++ [wr.heap.size], by omega, by go_num, by rw [List.length_append, HRL.out]; rfl, ?_, ?_, ?_, ?_⟩
        · rw [rowSl_snoc]; exact hown3
        · intro r hr
          rcases List.mem_append.1 hr with hr | hr
          · obtain ⟨h1, h2, h3⟩ := HRW.out r hr
            have hrl := hnr r hr
            refine ⟨h1, ?_, ?_⟩
            · intro e
              have e' : gg = r := by simpa [Value.ownBlock] using e
              rcases hat with hat | hat
              · rw [e'] at hat; exact h2 hat
              · omega
            · refine World.rowIs.of_block ((h3.alloc _).alloc _) (hgrow.block r (by simp; omega) (fun e => h2 e.symm))
          · rw [List.mem_singleton] at hr
            subst hr
            refine ⟨hbs, ?_, ?_⟩
            · intro e
              have e' : gg = wr.heap.size := by simpa [Value.ownBlock] using e
              rcases hat with hat | hat
              · rw [e'] at hat; have := (HOV.out _ hat).2; omega
              · omega
            · refine World.rowIs.of_block ((World.rowIs_made wr (.bool false) n 4).alloc _) (hgrow.block wr.heap.size (by simp; omega) (fun e => by have := (HOV.out _ e.symm).2; omega))
        · rw [List.nodup_append]
          refine ⟨HND.out, by simp, fun a ha b hb => ?_⟩
          rw [List.mem_singleton] at hb
          have := hnr a ha
          omega
        · exact ((hbel.alloc hbel.size _).alloc (by simp; omega) _).grown hgrow (by simp; omega) (fun j hj => ownBlock_ge hown j hj)
      case measure => simp [intOf]; omega
    · have ek : k = n := by omega
      subst ek
      have HO := hide hown
      clear hown
      go_wp2
      go_ret
      exact ⟨_, rs, rfl, HRL.out, HO.out, HRW.out, HND.out, hbel⟩

theorem square_mat {w' : World} {B n : Nat} {v : Value} {rs : List Nat} (hl : rs.length = n) (hown : w'.ownsRow B 175 1 v n (rowSl n rs)) (hrows : ∀ r ∈ rs, B ≤ r ∧ v.ownBlock ≠ some r ∧ w'.rowIs r 4 n (fun _ => .bool false)) (hnd : rs.Nodup) :
    ∃ (a : Option Addr) (g cap : Nat) (R : Nat → Nat), v = .slice a n cap ∧ (0 < n → a = some ⟨g, 0, none⟩) ∧ Mat w' g n R noM ∧ (∀ i, i < n → B ≤ R i) ∧ B ≤ g := by
  rcases Nat.eq_zero_or_pos n with hz | hp
  · obtain ⟨a, cap, hv, _⟩ := own_shape hown
    refine ⟨a, B, cap, fun _ => 0, hv, fun h => by omega, ⟨fun i hi => by omega, fun i hi => by omega, fun i j hi => by omega, fun i hi => by omega⟩, fun i hi => by omega, Nat.le_refl _⟩
  · obtain ⟨g, cap, rfl, h1, h2⟩ := hown.form hp
    have hat : ∀ i, (hi : i < n) → rs[i]'(by omega) ∈ rs := fun i hi => List.getElem_mem _
    refine ⟨some ⟨g, 0, none⟩, g, cap, fun i => rs.getD i 0, rfl, fun _ => rfl, ⟨fun i hi => ?_, fun i hi => ?_, fun i j hi hj e => ?_, fun i hi e => ?_⟩, fun i hi => ?_, h1⟩
    · rw [hown.cellAt i (by omega)]
      unfold rowSl
      rw [List.getElem?_map, List.getElem?_eq_getElem (by omega)]
      show some _ = some (Value.slice (some ⟨rs.getD i 0, 0, none⟩) n n)
      rw [List.getD_eq_getElem?_getD, List.getElem?_eq_getElem (by omega)]
      rfl
    · show w'.rowIs (rs.getD i 0) _ _ _
      rw [List.getD_eq_getElem?_getD, List.getElem?_eq_getElem (by omega)]
      exact (hrows _ (hat i hi)).2.2
    · have e' : rs.getD i 0 = rs.getD j 0 := e
      rw [List.getD_eq_getElem?_getD, List.getD_eq_getElem?_getD, List.getElem?_eq_getElem (show i < rs.length by omega), List.getElem?_eq_getElem (show j < rs.length by omega)] at e'
      have e2 : rs[i]'(by omega) = rs[j]'(by omega) := e'
      rcases Nat.lt_trichotomy i j with hh | hh | hh
      · exact absurd e2 ((List.pairwise_iff_getElem.1 hnd) i j (by omega) (by omega) hh)
      · exact hh
      · exact absurd e2.symm ((List.pairwise_iff_getElem.1 hnd) j i (by omega) (by omega) hh)
    · have e' : rs.getD i 0 = g := e
      rw [List.getD_eq_getElem?_getD, List.getElem?_eq_getElem (show i < rs.length by omega)] at e'
      have e2 : rs[i]'(by omega) = g := e'
      exact (hrows _ (hat i hi)).2.1 (by rw [e2]; rfl)
    · show B ≤ rs.getD i 0
      rw [List.getD_eq_getElem?_getD, List.getElem?_eq_getElem (by omega)]
      exact (hrows _ (hat i hi)).1

end Go.Proofs.Ytmndgoapkmhglaa

namespace Go.Proofs.Ytmndgoapkmhglaa
open Go.RowKit
attribute [local go_sem ↓] Go.wp_at_zero Go.wp_at_succ

theorem routes_in {ts : List Tk} {L : List Dl} : ∀ (l : List Dl) (b : Nat), ∀ r ∈ routesFrom ts L b l, r.src < b + l.length ∧ r.dst < 4 := by
  have hto : ∀ b x k, ∀ r ∈ routeTo ts L b x k, r.src = b ∧ r.dst < k := by
    intro b x k
    induction k with
    | zero => intro r hr; simp [routeTo] at hr
    | succ k ih =>
      intro r hr
      simp only [routeTo, List.mem_append] at hr
      rcases hr with hr | hr
      · have := ih r hr; exact ⟨this.1, by omega⟩
      · unfold routeAt at hr
        split at hr
        · simp at hr; subst hr; exact ⟨rfl, Nat.lt_succ_self _⟩
        · simp at hr
  intro l
  induction l with
  | nil => intro b r hr; simp [routesFrom] at hr
  | cons x l ih =>
    intro b r hr
    simp only [routesFrom, List.mem_append] at hr
    rw [List.length_cons]
    rcases hr with hr | hr
    · have := hto b x 4 r hr; exact ⟨by omega, this.2⟩
    · have := ih (b + 1) r hr; exact ⟨by omega, this.2⟩

theorem rt_later {w wr : World} {B g cap : Nat} {l : List Rt} (h : w.ownsRow B 42 3 (.slice (some ⟨g, 0, none⟩) l.length cap) l.length (rtCells l)) (hb : wr.heap[g]? = w.heap[g]?) {k : Nat} (hk : k < l.length) (r : Rt) (hr : r = l[k]'hk) :
    wr.cell? ⟨g, k * 3, none⟩ = some (.int .i64 (r.src : Int)) ∧ wr.cell? ⟨g, k * 3 + 1, none⟩ = some (.int .i64 (r.dst : Int)) ∧ wr.cell? ⟨g, k * 3 + 2, none⟩ = some (.bool r.late) := by
  have hcr : ∀ j, j < 3 → wr.cell? ⟨g, k * 3 + j, none⟩ = r.cells[j]? := fun j hj => by
    rw [World.cell?_of_block (w := w) (a := ⟨g, k * 3 + j, none⟩) hb, h.cellAt (k * 3 + j) (by omega)]
    have e := flat_get Rt.cells 3 rt_len l k j hk hj
    rw [← hr] at e
    exact e
  exact ⟨hcr 0 (by omega), hcr 1 (by omega), hcr 2 (by omega)⟩

set_option maxHeartbeats 2000000 in
set_option maxRecDepth 100000 in
theorem rwaits_any (w : World) (q g cap : Nat) (ts : List Tk) (L : List Dl) (vE vA vI vQ : Value) (h : RProg w q g cap ts L vE vA vI vQ) (ho : ROk ts L) :
    Calls Try.prog 117 #[.pointer (some ⟨q, 0, none⟩)] w fun e w' => ∃ (g2 cap2 : Nat) (R : Nat → Nat), e = .returned (.slice (some ⟨g2, 0, none⟩) 4 cap2) ∧ Mat w' g2 4 R (waitsP ((eqL L).map (placeD ts)) (routesR ts L) noM) ∧ (∀ i, i < 4 → w.heap.size ≤ R i) ∧ w.heap.size ≤ g2 ∧ Below w.heap.size w w' := by
  obtain ⟨hm1, hm2, hm3⟩ := ho.many
  obtain ⟨av, cv, rfl, hsh⟩ := own_shape h.eqs
  have HR := hide h
  have HO := hide ho
  have HSH := hide hsh
  clear h ho hsh
  go_enter Try.func117, Try.ntmps117
  go_wp2_with fail
  refine (rsquare_any w 4 (by omega)).mono ?_
  rintro e w1 ⟨v, rs, rfl, hrl, hown, hrows, hnd, hb1⟩
  obtain ⟨a, g2, cap2, R, rfl, hag, hmat, hRB, hg2⟩ := square_mat hrl hown hrows hnd
  have hag' := hag (by omega)
  subst hag'
  have HRB := hide hRB
  have HM1 := hide hmat
  have HRP1 := hide (HR.out.below hb1)
  clear hrl hown hrows hnd hag hmat hRB
  go_wp2_with fail
  refine (rroutes_any w1 q g cap ts L _ _ _ _ HRP1.out HO.out).mono ?_
  rintro e2 w2 ⟨vl, rfl, hol, hll, hb2⟩
  obtain ⟨al, cl, rfl, hshl⟩ := own_shape hol
  have hin := routes_in (ts := ts) (L := L) (eqL L) 0
  have hbw2 : Below w.heap.size w w2 := hb1.trans (hb2.mono hb1.size)
  have HM2 : Hid (Mat w2 g2 4 R noM) := hide (HM1.out.keep (hb2.block g2 (HM1.out.lt (by omega))) (fun i hi => hb2.block (R i) (World.rowIs.lt (HM1.out.rows i hi))))
  have HNE : Hid (∀ gl, al = some ⟨gl, 0, none⟩ → 0 < (routesR ts L).length → gl < w2.heap.size ∧ ∀ i, i < 4 → R i ≠ gl) := hide (fun gl hgl hp => by
    obtain ⟨gg, e1, h1, h2⟩ := hshl hp
    rw [e1] at hgl
    cases hgl
    exact ⟨h2, fun i hi => by have := World.rowIs.lt (HM1.out.rows i hi); omega⟩)
  have HIN : Hid (∀ r ∈ routesR ts L, r.src < (eqL L).length ∧ r.dst < 4) := hide (fun r hr => by have := hin r hr; exact ⟨by omega, this.2⟩)
  have HOL := hide (And.intro hol hshl)
  generalize hRS : routesR ts L = rsl at HNE HIN HOL hll
  have HRS := hide hRS
  clear hin hol hshl hb1 hb2 HM1 HRP1 hRS
  go_wp2
  go_loopw [5] (fun vi wx => ∃ (m : Nat) (M : Mx), m ≤ rsl.length ∧ vi = .int .i64 m ∧ Mat wx g2 4 R M ∧ Below w.heap.size w wx ∧ (∀ gl, al = some ⟨gl, 0, none⟩ → 0 < rsl.length → wx.heap[gl]? = w2.heap[gl]?) ∧ waitsP ((eqL L).map (placeD ts)) (rsl.drop m) M = waitsP ((eqL L).map (placeD ts)) rsl noM) (fun vi _ => rsl.length - (intOf vi).toNat)
  case atStart => exact ⟨0, noM, Nat.zero_le _, rfl, HM2.out, hbw2, fun _ _ _ => rfl, rfl⟩
  case round =>
    clear HM2 hbw2
    obtain ⟨m, M, hm, rfl, hmat, hbel, hkeep, hrec⟩ := hrel
    by_cases hml : m < rsl.length
    · obtain ⟨gl, rfl, _, hgl⟩ := HOL.out.2 (by omega)
      obtain ⟨r, hr⟩ : ∃ r, r = rsl[m]'hml := ⟨_, rfl⟩
      obtain ⟨hs1, hd1⟩ := HIN.out r (by rw [hr]; exact List.getElem_mem hml)
      obtain ⟨x0, x1, x2⟩ := rt_later HOL.out.1 (hkeep gl rfl (by omega)) hml r hr
      obtain ⟨gq, rfl, _, hgq2⟩ := HSH.out (by omega)
      obtain ⟨x, hx⟩ : ∃ x, x = (eqL L)[r.src]'hs1 := ⟨_, rfl⟩
      obtain ⟨_, hxk, _, _, hxp⟩ := HO.out.eq (x := x) (by rw [hx]; exact List.getElem_mem hs1)
      have c4 := (HR.out.below hbel).c4
      have y4 := (rd_later HR.out.eqs hbel hgq2 hs1 (rdc ts x) (by rw [hx])).2.2.2.2.1
      rw [(rdc_truth ts hxk).2.2] at y4
      have hpl : ((eqL L).map (placeD ts)).getD r.src 0 = placeD ts x := by
        rw [List.getD_eq_getElem?_getD, List.getElem?_map, List.getElem?_eq_getElem hs1, ← hx]; rfl
      rw [List.drop_eq_getElem_cons hml, ← hr] at hrec
      simp only [waitsP] at hrec
      rw [hpl] at hrec
      have o1 := hmat.outer r.dst hd1
      have o2 := hmat.cell hd1 hxp
      have o3 := hmat.froz hd1 (placeD ts x)
      have HMAT := hide hmat
      have HRC := hide hrec
      have HKP := hide hkeep
      have HBF := hide (HRB.out r.dst hd1)
      have HNG := hide ((HNE.out gl rfl (by omega)).2 r.dst hd1)
      obtain ⟨src, dst, late⟩ := r
      simp only at hs1 hd1 x0 x1 x2 o1 o2 o3 y4 hxp HRC HBF HNG
      generalize placeD ts x = pl at y4 o2 o3 HRC hxp
      have d1 : (0 : Int) ≤ (m : Int) := by omega
      have d2 : (m : Int) < (rsl.length : Int) := by omega
      have d3 : (0 : Int) ≤ (src : Int) := by omega
      have d4 : (src : Int) < ((eqL L).length : Int) := by omega
      have d5 : (0 : Int) ≤ (dst : Int) := by omega
      have d6 : (dst : Int) < 4 := by omega
      have d7 : (0 : Int) ≤ (pl : Int) := by omega
      have d8 : (pl : Int) < 4 := by omega
      clear hr hx hxk hpl hrec hmat hkeep
      cases late
      · have HN2 : Hid (waitsP ((eqL L).map (placeD ts)) (rsl.drop (m + 1)) (upd M dst pl true) = waitsP ((eqL L).map (placeD ts)) rsl noM) := hide (by rw [← HRC.out]; simp)
        clear HRC
        go_wp2_with fail
        go_big_region
        go_wp2
        go_roundw
        case rel =>
          refine ⟨m + 1, upd M dst pl true, by omega, by go_num, (HMAT.out.set hd1 pl true).drew, (hbel.setCell HBF.out _).drew, fun gl' hg' hp' => ?_, HN2.out⟩
          cases hg'
          exact (heap_setCell_other wr ⟨R dst, pl, none⟩ gl _ (Ne.symm HNG.out)).trans (HKP.out gl rfl hp')
        case measure => simp [intOf]; omega
      · have HN2 : Hid (waitsP ((eqL L).map (placeD ts)) (rsl.drop (m + 1)) M = waitsP ((eqL L).map (placeD ts)) rsl noM) := hide (by rw [← HRC.out]; simp)
        clear HRC
        go_wp2
        go_roundw
        case rel => exact ⟨m + 1, M, by omega, by go_num, HMAT.out, hbel, HKP.out, HN2.out⟩
        case measure => simp [intOf]; omega
    · have em : m = rsl.length := by omega
      subst em
      rw [List.drop_length] at hrec
      have HMM : Hid (Mat wr g2 4 R (waitsP ((eqL L).map (placeD ts)) rsl noM)) := hide (by rw [← hrec]; exact hmat)
      have z1 : ¬ (rsl.length : Int) < (rsl.length : Int) := by omega
      clear hrec hmat hkeep
      go_wp2
      go_ret
      exact ⟨g2, ⟨cap2, rfl⟩, R, by rw [HRS.out]; exact HMM.out, HRB.out, hg2, hbel⟩

end Go.Proofs.Ytmndgoapkmhglaa

namespace Go.Proofs.Ytmndgoapkmhglaa
open Go.RowKit
attribute [local go_sem ↓] Go.wp_at_zero Go.wp_at_succ

set_option maxHeartbeats 2000000 in
set_option maxRecDepth 100000 in
theorem rcycle_any (w : World) (q g cap : Nat) (ts : List Tk) (L : List Dl) (vE vA vI vQ : Value) (h : RProg w q g cap ts L vE vA vI vQ) (ho : ROk ts L) :
    Calls Try.prog 76 #[.pointer (some ⟨q, 0, none⟩)] w fun e w' => e = .returned (optI (cycR ts L)) ∧ Below w.heap.size w w' := by
  obtain ⟨hm1, hm2, hm3⟩ := ho.many
  obtain ⟨av, cv, rfl, hsh⟩ := own_shape h.eqs
  have c4 := h.c4
  have HR := hide h
  have HO := hide ho
  have HSH := hide hsh
  clear h ho hsh
  go_enter Try.func76, Try.ntmps76
  go_wp2_with fail
  refine (rsquare_any w (eqL L).length hm2).mono ?_
  rintro e w1 ⟨v, rs, rfl, hrl, hown, hrows, hnd, hb1⟩
  obtain ⟨a, g2, cap2, R, rfl, hag, hmat, hRB, hg2⟩ := square_mat hrl hown hrows hnd
  have HAG := hide hag
  have HRB := hide hRB
  have HM1 := hide hmat
  have c4' := (HR.out.below hb1).c4
  clear hrl hown hrows hnd hag hmat hRB c4
  go_wp2
  -- the rows, marked as far as row k
  go_loopw [4] (fun i wr => ∃ (k : Nat) (M : Mx), k ≤ (eqL L).length ∧ i = .int .i64 k ∧ Mat wr g2 (eqL L).length R M ∧ Below w.heap.size w wr ∧ agree (eqL L).length M (fun i j => if i < k then relR ts L i j else false)) (fun i _ => (eqL L).length - (intOf i).toNat)
  case atStart => exact ⟨0, noM, Nat.zero_le _, rfl, HM1.out, hb1, fun i j _ _ => by simp [noM]⟩
  case round =>
    clear HM1 hb1 c4'
    obtain ⟨k, M, hk, rfl, hmat, hbel, hagr⟩ := hrel
    have c4 := (HR.out.below hbel).c4
    have HMAT := hide hmat
    have HAGR := hide hagr
    clear hmat hagr
    by_cases hlt : k < (eqL L).length
    · have hag := HAG.out (by omega)
      subst hag
      obtain ⟨gq, hgq, _, hgq2⟩ := HSH.out (by omega)
      subst hgq
      have j1 : (0 : Int) ≤ (k : Int) := by omega
      have j2 : (k : Int) < ((eqL L).length : Int) := by omega
      obtain ⟨x, hx⟩ : ∃ x, x = (eqL L)[k]'hlt := ⟨_, rfl⟩
      have HXM : Hid (x ∈ eqL L) := hide (by rw [hx]; exact List.getElem_mem hlt)
      have HX := hide hx
      clear hx
      go_wp2
      go_loopw [5] (fun i wr => ∃ (m : Nat) (M : Mx), m ≤ (eqL L).length ∧ i = .int .i64 m ∧ Mat wr g2 (eqL L).length R M ∧ Below w.heap.size w wr ∧ agree (eqL L).length M (fun i j => if i < k ∨ (i = k ∧ j < m) then relR ts L i j else false)) (fun i _ => (eqL L).length - (intOf i).toNat)
      case atStart => exact ⟨0, M, Nat.zero_le _, rfl, HMAT.out, hbel, fun i j hi hj => by rw [HAGR.out i j hi hj]; simp⟩
      case round =>
        clear HMAT HAGR c4 hbel
        obtain ⟨m, M2, hm, rfl, hmat, hbel, hagr⟩ := hrel
        have c4 := (HR.out.below hbel).c4
        by_cases hml : m < (eqL L).length
        · have j3 : (0 : Int) ≤ (m : Int) := by omega
          have j4 : (m : Int) < ((eqL L).length : Int) := by omega
          obtain ⟨d, hd⟩ : ∃ d, d = rdc ts x := ⟨_, rfl⟩
          obtain ⟨y0, y1, y2, y3, y4, y5⟩ := rd_later HR.out.eqs hbel hgq2 hlt d (by rw [hd, HX.out])
          obtain ⟨z, hz⟩ : ∃ z, z = (eqL L)[m]'hml := ⟨_, rfl⟩
          obtain ⟨z0, _⟩ := rd_later HR.out.eqs hbel hgq2 hml (rdc ts z) (by rw [hz])
          rw [(rdc_tok ts z).2] at z0
          have o1 := hmat.outer k hlt
          have o2 := hmat.cell hlt hml
          have o3 := hmat.froz hlt m
          have HMAT := hide hmat
          have HAGR := hide hagr
          have HD := hide hd
          have HREL : Hid (relR ts L k m = hangsR ts x (nameD ts z).data.toList) := hide (by unfold relR; rw [List.getElem?_eq_getElem hlt, List.getElem?_eq_getElem hml, ← HX.out, ← hz])
          generalize nameD ts z = nm at z0 HREL
          clear hmat hagr hd hz
          have HRP := hide (HR.out.below hbel)
          have HBL := hide hbel
          have HCALL : Hid (∀ W, RProg W q g cap ts L vE vA vI (.slice (some ⟨gq, 0, none⟩) (eqL L).length cv) → Calls Try.prog 115 #[.pointer (some ⟨q, 0, none⟩), .agg #[.string d.name, .int .i64 (d.tok : Int), .bool d.input, .bool d.truth, .int .i64 (d.place : Int), .int .i64 (d.body : Int)], .string nm] W fun e w' => e = .returned (.bool (hangsR ts x nm.data.toList)) ∧ Below W.heap.size W w') := hide (fun W hW => by
            have hd := HD.out
            subst hd
            exact rhangs_any W q g cap ts L _ _ _ _ hW HO.out x HXM.out nm)
          have l1 := HRP.out.lt
          have l2 : gq < wr.heap.size := by have := hbel.size; omega
          have l3 := HMAT.out.lt (show 0 < (eqL L).length by omega)
          have l4 := World.rowIs.lt (HMAT.out.rows k hlt)
          generalize hangsR ts x nm.data.toList = hg at HREL HCALL
          have lk := HRB.out k hlt
          have lq := HR.out.lt
          have n1 : R k ≠ q := by omega
          have n2 : R k ≠ gq := by omega
          have n3 : R k ≠ g2 := HMAT.out.ne k hlt
          have n1' : q ≠ R k := by omega
          have n2' : gq ≠ R k := by omega
          have n3' : g2 ≠ R k := Ne.symm n3
          go_wp2_with fail
          go_region_held3 (fun w' => w'.cell? ⟨q, 4, none⟩ = some (.slice (some ⟨gq, 0, none⟩) (eqL L).length cv) ∧ w'.cell? ⟨gq, k * 6, none⟩ = some (.string d.name) ∧ w'.cell? ⟨gq, k * 6 + 1, none⟩ = some (.int .i64 (d.tok : Int)) ∧ w'.cell? ⟨gq, k * 6 + 2, none⟩ = some (.bool d.input) ∧ w'.cell? ⟨gq, k * 6 + 3, none⟩ = some (.bool d.truth) ∧ w'.cell? ⟨gq, k * 6 + 4, none⟩ = some (.int .i64 (d.place : Int)) ∧ w'.cell? ⟨gq, k * 6 + 5, none⟩ = some (.int .i64 (d.body : Int)) ∧ w'.cell? ⟨gq, m * 6, none⟩ = some (.string nm) ∧ w'.cell? ⟨g2, k, none⟩ = some (.slice (some ⟨R k, 0, none⟩) (eqL L).length (eqL L).length)) (first | go_keep | exact ⟨(World.cell?_setCell_other _ _ _ _ (fun e => n1 (congrArg Addr.block e))).trans t0, (World.cell?_setCell_other _ _ _ _ (fun e => n2 (congrArg Addr.block e))).trans t1, (World.cell?_setCell_other _ _ _ _ (fun e => n2 (congrArg Addr.block e))).trans t2, (World.cell?_setCell_other _ _ _ _ (fun e => n2 (congrArg Addr.block e))).trans t3, (World.cell?_setCell_other _ _ _ _ (fun e => n2 (congrArg Addr.block e))).trans t4, (World.cell?_setCell_other _ _ _ _ (fun e => n2 (congrArg Addr.block e))).trans t5, (World.cell?_setCell_other _ _ _ _ (fun e => n2 (congrArg Addr.block e))).trans t6, (World.cell?_setCell_other _ _ _ _ (fun e => n2 (congrArg Addr.block e))).trans t7, (World.cell?_setCell_other _ _ _ _ (fun e => n3 (congrArg Addr.block e))).trans t8⟩)
            ((go_at_call 115; refine (HCALL.out _ (HRP.out.below ((Below.refl _ _).drew))).mono ?_; rintro e w2 ⟨rfl, hbF⟩; have t0 := (hbF.cell (p := ⟨q, 4, none⟩) l1).trans c4; have t1 := (hbF.cell (p := ⟨gq, k * 6, none⟩) l2).trans y0; have t2 := (hbF.cell (p := ⟨gq, k * 6 + 1, none⟩) l2).trans y1; have t3 := (hbF.cell (p := ⟨gq, k * 6 + 2, none⟩) l2).trans y2; have t4 := (hbF.cell (p := ⟨gq, k * 6 + 3, none⟩) l2).trans y3; have t5 := (hbF.cell (p := ⟨gq, k * 6 + 4, none⟩) l2).trans y4; have t6 := (hbF.cell (p := ⟨gq, k * 6 + 5, none⟩) l2).trans y5; have t7 := (hbF.cell (p := ⟨gq, m * 6, none⟩) l2).trans z0; have t8 := (hbF.cell (p := ⟨g2, k, none⟩) l3).trans o1; have t9 := (hbF.cell (p := ⟨R k, m, none⟩) l4).trans o2; have tf := (hbF.frozen (p := ⟨R k, m, none⟩) l4).trans o3))
          rename_i hHeld
          clear hHeld
          have HM2 : Hid (Mat w2 g2 (eqL L).length R M2) := hide (HMAT.out.keep (hbF.block g2 l3) (fun i hi => hbF.block (R i) (World.rowIs.lt (HMAT.out.rows i hi))))
          have HB2 : Hid (Below w.heap.size w w2) := hide (HBL.out.drew.trans (hbF.mono HBL.out.size))
          clear hbF t0 t1 t2 t3 t4 t5 t6 t7 t8 t9 tf y0 y1 y2 y3 y4 y5 z0 o1 o2 o3 c4
          go_wp2
          go_roundw
          case rel =>
            refine ⟨m + 1, upd M2 k m hg, by omega, by go_num, HM2.out.set hlt m hg, HB2.out.setCell lk _, fun i j hi hj => ?_⟩
            show upd M2 k m hg i j = if i < k ∨ (i = k ∧ j < m + 1) then relR ts L i j else false
            unfold upd
            by_cases e : i = k ∧ j = m
            · obtain ⟨rfl, rfl⟩ := e
              rw [if_pos ⟨rfl, rfl⟩, if_pos (by omega)]; exact HREL.out.symm
            · rw [if_neg e, HAGR.out i j hi hj]
              show (if i < k ∨ (i = k ∧ j < m) then relR ts L i j else false) = _
              by_cases e2 : i < k ∨ (i = k ∧ j < m)
              · rw [if_pos e2, if_pos (by omega)]
              · rw [if_neg e2, if_neg (by omega)]
          case measure => simp [intOf]; omega
        · have HMAT := hide hmat
          have HAGR := hide hagr
          clear hmat hagr
          go_wp2
          go_roundw
          case rel => exact ⟨k + 1, M2, by omega, by go_num, HMAT.out, hbel, fun i j hi hj => by
            rw [HAGR.out i j hi hj]
            show (if i < k ∨ (i = k ∧ j < m) then relR ts L i j else false) = if i < k + 1 then relR ts L i j else false
            by_cases e : i < k ∨ (i = k ∧ j < m)
            · rw [if_pos e, if_pos (by omega)]
            · rw [if_neg e, if_neg (by omega)]⟩
          case measure => simp [intOf]; omega
    · have ek : k = (eqL L).length := by omega
      subst ek
      have HMR : Hid (Mat wr g2 (eqL L).length R (relR ts L)) := hide (HMAT.out.congr (fun i j hi hj => by rw [HAGR.out i j hi hj]; show (if i < (eqL L).length then _ else _) = _; rw [if_pos hi]))
      have z1 : ¬ ((eqL L).length : Int) < ((eqL L).length : Int) := by omega
      clear HMAT HAGR
      go_wp2_with fail
      refine (rcircles_any wr a g2 (eqL L).length cap2 w.heap.size R (relR ts L) HMR.out HAG.out hm2 hbel.size HRB.out).mono ?_
      rintro e2 w2 ⟨G, rfl, hG, hrow, hb2⟩
      have hbel2 : Below w.heap.size w w2 := hbel.trans hb2
      have HCY : Hid (firstC ts (warsh (relR ts L) (eqL L).length) 0 ((eqL L).drop 0) = cycR ts L) := hide rfl
      generalize warsh (relR ts L) (eqL L).length = W at hrow HCY
      have c4'' := (HR.out.below hbel2).c4
      have HROW := hide hrow
      clear hrow hb2 hbel c4 HMR
      go_wp2
      go_loopw [7] (fun i wx => ∃ m : Nat, m ≤ (eqL L).length ∧ i = .int .i64 m ∧ wx.rowIs G 4 (eqL L).length (fun i => .bool (W i i)) ∧ Below w.heap.size w wx ∧ firstC ts W m ((eqL L).drop m) = cycR ts L) (fun i _ => (eqL L).length - (intOf i).toNat)
      case atStart => exact ⟨0, Nat.zero_le _, rfl, HROW.out, hbel2, HCY.out⟩
      case round =>
        clear HROW hbel2 c4'' HCY
        obtain ⟨m, hm, rfl, hrow, hbel, hrec⟩ := hrel
        have c4 := (HR.out.below hbel).c4
        by_cases hml : m < (eqL L).length
        · obtain ⟨gq, hgq, _, hgq2⟩ := HSH.out (by omega)
          subst hgq
          obtain ⟨x, hx⟩ : ∃ x, x = (eqL L)[m]'hml := ⟨_, rfl⟩
          have hxm : x ∈ L := (HO.out.eq (by rw [hx]; exact List.getElem_mem hml)).1
          have ht := HO.out.tok hxm
          have hpos := rdc_pos ts x
          obtain ⟨y0, y1, y2, y3, y4, y5⟩ := rd_later HR.out.eqs hbel hgq2 hml (rdc ts x) (by rw [hx])
          rw [List.drop_eq_getElem_cons hml, ← hx] at hrec
          simp only [firstC] at hrec
          have r1 := hrow.cell hml
          have HRC := hide hrec
          have HRW := hide hrow
          have HRP := hide (HR.out.below hbel)
          have HPX := hide hpos
          have HTX := hide ht
          have j3 : (0 : Int) ≤ (m : Int) := by omega
          have j4 : (m : Int) < ((eqL L).length : Int) := by omega
          generalize rdc ts x = d at y0 y1 y2 y3 y4 y5 HPX HTX
          generalize W m m = b at r1 HRC
          clear hrec hrow hxm ht hx hpos
          cases b
          · have HR2 : Hid (firstC ts W (m + 1) ((eqL L).drop (m + 1)) = cycR ts L) := hide (by rw [← HRC.out]; simp)
            clear HRC
            go_wp2
            go_roundw
            case rel => exact ⟨m + 1, by omega, by go_num, HRW.out, hbel, HR2.out⟩
            case measure => simp [intOf]; omega
          · have HR2 : Hid (cycR ts L = some (posD ts x)) := hide (by rw [← HRC.out]; simp)
            clear HRC
            go_wp2_with fail
            refine (rplace_any _ q g cap ts L _ _ _ _ HRP.out d HTX.out).mono ?_
            rintro e3 w3 ⟨rfl, hb3⟩
            rw [HPX.out]
            go_wp2
            go_ret
            exact ⟨by rw [HR2.out]; rfl, hbel.trans (hb3.mono hbel.size)⟩
        · have em : m = (eqL L).length := by omega
          subst em
          rw [List.drop_length] at hrec
          have HRC := hide hrec
          have z2 : ¬ ((eqL L).length : Int) < ((eqL L).length : Int) := by omega
          clear hrec hrow
          go_wp2
          go_ret
          exact ⟨by rw [← HRC.out]; rfl, hbel⟩

end Go.Proofs.Ytmndgoapkmhglaa
