import Derived.Test.Ytmndgoapkmhglabc22JudJ
import Derived.Test.Ytmndgoapkmhglabc33RefR
import Derived.Test.Ytmndgoapkmhglabc34RefT
namespace Go.Proofs.Ytmndgoapkmhglab
open Go.RowKit
attribute [local go_sem ↓] Go.wp_at_zero Go.wp_at_succ

def usesL (ts : List Tk) (nm : List UInt8) (pl : Nat) (l : List Dl) : List Nat := l.flatMap fun x => if placeD ts x = pl then useOf ts x nm else []
theorem usesL_len (ts : List Tk) (nm : List UInt8) (pl : Nat) (x : Dl) (h : x.t.len ≤ 1501) : (if placeD ts x = pl then useOf ts x nm else []).length ≤ 1501 := by
  split
  · unfold useOf
    have := List.length_filter_le (fun j => isNm ts j && lAt ts j == nm) (List.range' (x.i + 5) x.t.len)
    rw [List.length_range'] at this
    omega
  · simp

set_option maxHeartbeats 2000000 in
set_option maxRecDepth 100000 in
theorem ruses_any (w : World) (q g cap : Nat) (ts : List Tk) (L : List Dl) (vE vA vI vQ : Value) (h : RProg w q g cap ts L vE vA vI vQ) (ho : ROk ts L) (name : ByteArray) (pl : Nat) :
    Calls Try.prog 96 #[.pointer (some ⟨q, 0, none⟩), .string name, .int .i64 (pl : Int)] w fun e w' => ∃ v, e = .returned v ∧ w'.ownsRow w.heap.size 3 1 v (usesR ts L name.data.toList pl).length (pCells (usesR ts L name.data.toList pl)) ∧ Below w.heap.size w w' := by
  obtain ⟨i0, hi0, hz0, hz1, hz2⟩ := info_parts Try.infoInt
  obtain ⟨hm1, hm2, hm3⟩ := ho.many
  obtain ⟨av, cv, rfl, hsh⟩ := own_shape h.eqs
  have hlen := ho.len
  have hpos := ho.pos
  obtain ⟨gE, capE, rfl, _, hgE⟩ := h.ends.form (by omega)
  have HR := hide h
  have HO := hide ho
  have HSH := hide hsh
  have HU : Hid ([] ++ usesL ts name.data.toList pl ((eqL L).drop 0) = usesR ts L name.data.toList pl) := hide rfl
  clear h ho hsh
  go_enter Try.func96, Try.ntmps96
  go_wp2
  go_loopw [7, 8] (fun v vi wr => ∃ (m : Nat) (acc : List Nat), m ≤ (eqL L).length ∧ vi = .int .i64 m ∧ acc ++ usesL ts name.data.toList pl ((eqL L).drop m) = usesR ts L name.data.toList pl ∧ acc.length ≤ m * 1501 ∧ wr.ownsRow w.heap.size 3 1 v acc.length (pCells acc) ∧ Below w.heap.size w wr) (fun _ vi _ => (eqL L).length - (intOf vi).toNat)
  case atStart => exact ⟨0, [], Nat.zero_le _, rfl, HU.out, by simp, World.ownsRow_nil _ _ _ _, Below.refl _ _⟩
  case round =>
    obtain ⟨m, acc, hm, rfl, hrec, hal, hown, hbel⟩ := hrel
    have c4 := (HR.out.below hbel).c4
    have HOW := hide hown
    have HRC := hide hrec
    have hbs := hbel.size
    clear hrec hown
    by_cases hml : m < (eqL L).length
    · obtain ⟨gq, rfl, _, hgq2⟩ := HSH.out (by omega)
      obtain ⟨x, hx⟩ : ∃ x, x = (eqL L)[m]'hml := ⟨_, rfl⟩
      obtain ⟨hxm, hxk, hxs, hxl, _⟩ := HO.out.eq (x := x) (by rw [hx]; exact List.getElem_mem hml)
      obtain ⟨e1, e2, e3⟩ := rdc_truth ts hxk
      obtain ⟨d, hd⟩ : ∃ d, d = rdc ts x := ⟨_, rfl⟩
      rw [← hd] at e1 e2 e3
      obtain ⟨y0, y1, y2, y3, y4, y5⟩ := rd_later HR.out.eqs hbel hgq2 hml d (by rw [hd, hx])
      have hbe : behindF ts (x.i + 5) = x.i + 5 + x.t.len := behind_sp HO.out.F x.t (x.i + 5) hxs (by omega)
      have hul := usesL_len ts name.data.toList pl x (by omega)
      have HST : Hid (acc ++ ((if placeD ts x = pl then useOf ts x name.data.toList else []) ++ usesL ts name.data.toList pl ((eqL L).drop (m + 1))) = usesR ts L name.data.toList pl) := hide (by
        rw [← HRC.out, List.drop_eq_getElem_cons hml, ← hx]; rfl)
      obtain ⟨b, hb⟩ : ∃ b, b = x.i + 5 := ⟨_, rfl⟩
      obtain ⟨en, hen⟩ : ∃ en, en = b + x.t.len := ⟨_, rfl⟩
      rw [← hb] at hbe e2
      rw [← hen] at hbe
      rw [e2] at y5
      have HBE := hide hbe
      have j3 : (0 : Int) ≤ (m : Int) := by omega
      have j4 : (m : Int) < ((eqL L).length : Int) := by omega
      have j5 : (0 : Int) ≤ (b : Int) := by omega
      have j6 : (b : Int) < (ts.length : Int) := by omega
      have hel : en < ts.length := by omega
      have HUO : Hid (useOf ts x name.data.toList = (List.range' b (en - b)).filter fun j => isNm ts j && lAt ts j == name.data.toList) := hide (by unfold useOf; rw [← hb, hen, Nat.add_sub_cancel_left])
      have HPL := hide e3
      have hben : b < en := by have := x.t.len_pos; omega
      clear hen hxl
      clear hbe hb hd hx e1 e2 e3 hxm hxk hxs
      go_wp2
      generalize hB : wr.heap.size = B
      go_loopw [7, 10] (fun v vj wx => ∃ k : Nat, b ≤ k ∧ k ≤ en ∧ vj = .int .i64 k ∧ (d.place = pl ∨ k = b) ∧ wx.ownsRow w.heap.size 3 1 v (acc ++ (List.range' b (k - b)).filter fun j => isNm ts j && lAt ts j == name.data.toList).length (pCells (acc ++ (List.range' b (k - b)).filter fun j => isNm ts j && lAt ts j == name.data.toList)) ∧ Below w.heap.size w wx ∧ wx.cell? ⟨B, 4, none⟩ = some (.int .i64 (d.place : Int)) ∧ wx.cell? ⟨B, 5, none⟩ = some (.int .i64 (b : Int)) ∧ v.ownBlock ≠ some B ∧ B < wx.heap.size) (fun _ vj _ => en - (intOf vj).toNat)
      case atStart =>
        subst hB
        refine ⟨b, Nat.le_refl _, by omega, rfl, .inr rfl, ?_, hbel.alloc hbel.size _, by simp, by simp, ?_, by simp⟩
        · rw [Nat.sub_self]
          simpa using HOW.out.alloc _
        · intro e; have := (HOW.out.lt _ e).2; omega
      case round =>
        clear hB c4 y0 y1 y2 y3 y4 y5 hbel HOW
        obtain ⟨k, hk0, hk1, rfl, hpl, hownx, hbx, t4, t5, hne, hBl⟩ := hrel
        have HRP := hide (HR.out.below hbx)
        have c0 := HRP.out.c0
        have c1 := HRP.out.c1
        have r0 := end_later HR.out.ends hbx hgE (show b < ts.length by omega)
        rw [HBE.out] at r0
        have HOX := hide hownx
        have HBX := hide hbx
        have hbsx := hbx.size
        have hfl : (acc ++ (List.range' b (k - b)).filter fun j => isNm ts j && lAt ts j == name.data.toList).length ≤ acc.length + 1501 := by
          rw [List.length_append]
          have := List.length_filter_le (fun j => isNm ts j && lAt ts j == name.data.toList) (List.range' b (k - b))
          rw [List.length_range'] at this
          omega
        have hm15 : m * 1501 ≤ 1501 * 1501 := Nat.mul_le_mul_right _ (by omega)
        clear hownx hbx
        by_cases hp1 : d.place = pl
        · have q0 : ((d.place : Int) == (pl : Int)) = true := by rw [hp1]; simp
          have HP1 := hide hp1
          clear hp1 hpl
          by_cases hlt : k < en
          · have j7 : (k : Int) < (en : Int) := by omega
            have j8 : (0 : Int) ≤ (k : Int) := by omega
            have j9 : (k : Int) < (ts.length : Int) := by omega
            obtain ⟨a, ha⟩ : ∃ a, a = rtok (tkAt ts k) := ⟨_, rfl⟩
            obtain ⟨x0, x1, _, _⟩ := HR.out.toks.cells HBX.out (show k < ts.length by omega) a ha
            have hc := c97 (tkAt ts k)
            rw [← ha] at hc
            have HNX : Hid ((List.range' b (k + 1 - b)).filter (fun j => isNm ts j && lAt ts j == name.data.toList) = (List.range' b (k - b)).filter (fun j => isNm ts j && lAt ts j == name.data.toList) ++ (if (isNm ts k && lAt ts k == name.data.toList) = true then [k] else [])) := hide (by
              rw [show k + 1 - b = (k - b) + 1 by omega, range_split, List.filter_append, show b + (k - b) = k by omega]
              congr 1
              simp [List.range', List.filter_cons])
            by_cases hnm : (tkAt ts k).kind = 1
            · have q1 : ((a.c : Int) == 97) = true := by rw [show (97 : Int) = ((97 : Nat) : Int) from rfl, beq_cast, hc, hnm]; rfl
              have hw : a.word = (tkAt ts k).text := by rw [ha]; unfold rtok; simp [hnm]
              obtain ⟨ee, qE⟩ : ∃ ee, (a.word.toList == name.toList) = ee := ⟨_, rfl⟩
              have eE : (isNm ts k && lAt ts k == name.data.toList) = ee := by
                rw [← qE, ByteArray.toList_eq, ByteArray.toList_eq, hw, show isNm ts k = true by unfold isNm; rw [hnm]; rfl]; rfl
              rw [eE] at HNX
              clear hc hnm ha hw eE
              cases ee
              · have HN2 := hide (HNX.out.trans (by rw [if_neg (by simp), List.append_nil]))
                clear HNX
                go_wp2_with fail
                go_quiet (fail)
                go_wp2
                go_roundw
                case rel => exact ⟨k + 1, by omega, by omega, by go_num, .inl HP1.out, by rw [HN2.out]; first | exact HOX.out | exact HOX.out.drewN _ | exact bel_own HOX.out (below_drewN (Below.refl _ _) _), by first | exact HBX.out | exact below_drewN HBX.out _, t4, t5, hne, hBl⟩
                case measure => simp [intOf]; omega
              · have HN2 := hide (HNX.out.trans (by rw [if_pos rfl]))
                clear HNX
                generalize hFL : (List.range' b (k - b)).filter (fun j => isNm ts j && lAt ts j == name.data.toList) = F at HOX HN2 hfl
                have HFL := hide hFL
                clear hFL
                go_wp2_with fail
                go_quiet (fail)
                have hod := bel_own HOX.out (below_drewN (Below.refl wr.heap.size wr) nq)
                have HBD : Hid (Below w.heap.size w (wr.drewN nq)) := hide (below_drewN HBX.out _)
                go_wp2_with (at_builtin; refine wpList_append_lies _ rfl _ _ _ rfl w.heap.size 3 i0 _ 1 8 Try.underlying38 hi0 hz0 hz1 hz2 rfl (by omega) _ (acc ++ F).length (pCells (acc ++ F)) rfl (hod.alloc _) ⟨wr.heap.size, 0, none⟩ 1 1 [.int .i64 (k : Int)] rfl rfl (World.news_of_block (cs := #[.int .i64 (k : Int)]) (t := 3) (fr := (0, 0)) (heap_alloc_new (wr.drewN nq) _)) (by simp [Value.oneCell']) (by omega) (by unfold maxLen; omega) (by omega) (by simp; omega) (wr.heap.size + 1) (by simp) ?_; intro g3 cap3 w3 hown3 hgrow hat hlt3)
                go_roundw
                case rel =>
                  have hsz3 := hgrow.size
                  simp at hsz3
                  have hfe := HFL.out
                  refine ⟨k + 1, by omega, by omega, by go_num, .inl HP1.out, ?_, ?_, ?_, ?_, ?_, by omega⟩
                  · rw [HN2.out, ← List.append_assoc, pCells_snoc, List.length_append, List.length_append]
                    rw [List.length_append] at hown3
                    exact hown3
                  · exact (HBD.out.alloc (by simpa using hbsx) _).grown hgrow (by simp; omega) (fun j hj => ownBlock_ge hod j hj)
                  · exact hgrow.cell (by rw [World.cell?_alloc_past _ _ _ (by simpa using hBl)]; exact t4) (fun h => hne h.symm)
                  · exact hgrow.cell (by rw [World.cell?_alloc_past _ _ _ (by simpa using hBl)]; exact t5) (fun h => hne h.symm)
                  · intro h
                    have h' : g3 = B := by simpa [Value.ownBlock] using h
                    rcases hat with hat | hat
                    · rw [h'] at hat; exact hne hat
                    · omega
                case measure => simp [intOf]; omega
            · have q1 : ((a.c : Int) == 97) = false := by rw [show (97 : Int) = ((97 : Nat) : Int) from rfl, beq_cast, hc]; exact beq_eq_false_iff_ne.2 hnm
              have HN2 := hide (HNX.out.trans (by rw [show isNm ts k = false from beq_eq_false_iff_ne.2 hnm, Bool.false_and, if_neg (by simp), List.append_nil]))
              clear hc hnm ha HNX
              go_wp2_with fail
              go_quiet (fail)
              go_wp2
              go_roundw
              case rel => exact ⟨k + 1, by omega, by omega, by go_num, .inl HP1.out, by rw [HN2.out]; first | exact HOX.out | exact bel_own HOX.out (below_drewN (Below.refl _ _) _), by first | exact HBX.out | exact below_drewN HBX.out _, t4, t5, hne, hBl⟩
              case measure => simp [intOf]; omega
          · have ek : k = en := by omega
            subst ek
            have j7 : ¬ (k : Int) < (k : Int) := by omega
            go_wp2_with fail
            go_quiet (fail)
            go_wp2
            go_roundw
            case rel =>
              have hst := HST.out
              rw [if_pos (by rw [← HPL.out]; exact HP1.out), HUO.out, ← List.append_assoc] at hst
              exact ⟨m + 1, _, by omega, by go_num, hst, by rw [Nat.succ_mul]; omega, by first | exact HOX.out | exact bel_own HOX.out (below_drewN (Below.refl _ _) _), by first | exact HBX.out | exact below_drewN HBX.out _⟩
            case measure => simp [intOf]; omega
        · have q0 : ((d.place : Int) == (pl : Int)) = false := by rw [beq_eq_false_iff_ne]; omega
          have ekb : k = b := by rcases hpl with h | h; exact absurd h hp1; exact h
          have j7 : (k : Int) < (en : Int) := by omega
          have HST2 := HST.out
          rw [if_neg (by rw [← HPL.out]; exact hp1), List.nil_append] at HST2
          have HS3 := hide HST2
          have HO3 : Hid (wr.ownsRow w.heap.size 3 1 _ acc.length (pCells acc)) := hide (by
            have := HOX.out
            rw [ekb, Nat.sub_self] at this
            simpa using this)
          clear HST2 hp1 hpl ekb HOX
          go_wp2_with fail
          go_quiet (fail)
          go_wp2
          go_roundw
          case rel => exact ⟨m + 1, acc, by omega, by go_num, HS3.out, by rw [Nat.succ_mul]; omega, by first | exact HO3.out | exact bel_own HO3.out (below_drewN (Below.refl _ _) _), by first | exact HBX.out | exact below_drewN HBX.out _⟩
          case measure => simp [intOf]; omega
    · have em : m = (eqL L).length := by omega
      subst em
      have z1 : ¬ ((eqL L).length : Int) < ((eqL L).length : Int) := by omega
      have hu := HRC.out
      rw [List.drop_length] at hu
      have hu2 : acc = usesR ts L name.data.toList pl := by rw [← hu]; simp [usesL]
      have HU2 := hide hu2
      clear hu hu2 HRC
      go_wp2
      go_ret
      exact ⟨_, rfl, by rw [← HU2.out]; exact HOW.out, hbel⟩

end Go.Proofs.Ytmndgoapkmhglab

namespace Go.Proofs.Ytmndgoapkmhglab
open Go.RowKit
attribute [local go_sem ↓] Go.wp_at_zero Go.wp_at_succ

theorem routeTo_len (ts : List Tk) (L : List Dl) (b : Nat) (x : Dl) : ∀ k, (routeTo ts L b x k).length ≤ k := by
  intro k
  induction k with
  | zero => simp [routeTo]
  | succ k ih => simp only [routeTo, List.length_append, routeAt]; split <;> simp <;> omega

theorem uses_in {ts : List Tk} {L : List Dl} (ho : ROk ts L) (nm : List UInt8) (pl : Nat) : ∀ k ∈ usesR ts L nm pl, 5 ≤ k ∧ k < ts.length := by
  intro k hk
  unfold usesR at hk
  rw [List.mem_flatMap] at hk
  obtain ⟨x, hx, hk⟩ := hk
  obtain ⟨_, _, _, hl, _⟩ := ho.eq hx
  split at hk
  · unfold useOf at hk
    have := (List.mem_filter.1 hk).1
    rw [List.mem_range'_1] at this
    omega
  · simp at hk

theorem flat_le {α : Type} {f : α → List Nat} (n : Nat) : ∀ (l : List α), (∀ a ∈ l, (f a).length ≤ n) → (l.flatMap f).length ≤ l.length * n := by
  intro l
  induction l with
  | nil => intro _; simp
  | cons a l ih =>
    intro h
    rw [List.flatMap_cons, List.length_append, List.length_cons, Nat.succ_mul]
    have := h a (List.mem_cons_self ..)
    have := ih (fun b hb => h b (List.mem_cons_of_mem _ hb))
    omega
theorem uses_le {ts : List Tk} {L : List Dl} (ho : ROk ts L) (nm : List UInt8) (pl : Nat) : (usesR ts L nm pl).length ≤ 1501 * 1501 := by
  have h1 := flat_le (f := fun x => if placeD ts x = pl then useOf ts x nm else []) 1501 (eqL L) (fun x hx => usesL_len ts nm pl x (by have := (ho.eq hx).2.2.2.1; have := ho.len; omega))
  have h2 : (eqL L).length * 1501 ≤ 1501 * 1501 := Nat.mul_le_mul_right _ ho.many.2.1
  exact Nat.le_trans h1 h2
theorem all_take_succ {α : Type} (p : α → Bool) (l : List α) (m : Nat) (h : m < l.length) : (l.take (m + 1)).all p = ((l.take m).all p && p (l[m]'h)) := by
  rw [List.take_succ_eq_append_getElem h, List.all_append]; simp

set_option maxHeartbeats 2000000 in
set_option maxRecDepth 100000 in
theorem rroutes_any (w : World) (q g cap : Nat) (ts : List Tk) (L : List Dl) (vE vA vI vQ : Value) (h : RProg w q g cap ts L vE vA vI vQ) (ho : ROk ts L) :
    Calls Try.prog 66 #[.pointer (some ⟨q, 0, none⟩)] w fun e w' => ∃ v, e = .returned v ∧ w'.ownsRow w.heap.size 89 3 v (routesR ts L).length (rtCells (routesR ts L)) ∧ (routesR ts L).length ≤ 6100 ∧ Below w.heap.size w w' := by
  obtain ⟨i0, hi0, hz0, hz1, hz2⟩ := info_parts Try.infoRoute
  obtain ⟨hm1, hm2, hm3⟩ := ho.many
  obtain ⟨av, cv, rfl, hsh⟩ := own_shape h.eqs
  have hlen := ho.len
  have HR := hide h
  have HO := hide ho
  have HSH := hide hsh
  clear h ho hsh
  go_enter Try.func66, Try.ntmps66
  go_wp2
  go_loopw [3, 4] (fun v vi wr => ∃ (m : Nat) (acc : List Rt), m ≤ (eqL L).length ∧ vi = .int .i64 m ∧ acc ++ routesFrom ts L m ((eqL L).drop m) = routesR ts L ∧ acc.length ≤ m * 4 ∧ wr.ownsRow w.heap.size 89 3 v acc.length (rtCells acc) ∧ Below w.heap.size w wr) (fun _ vi _ => (eqL L).length - (intOf vi).toNat)
  case atStart => exact ⟨0, [], Nat.zero_le _, rfl, rfl, by simp, World.ownsRow_nil _ _ _ _, Below.refl _ _⟩
  case round =>
    obtain ⟨m, acc, hm, rfl, hrec, hal, hown, hbel⟩ := hrel
    have c4 := (HR.out.below hbel).c4
    have HOW := hide hown
    have HRC := hide hrec
    have hbs := hbel.size
    clear hrec hown
    by_cases hml : m < (eqL L).length
    · obtain ⟨gq, rfl, _, hgq2⟩ := HSH.out (by omega)
      obtain ⟨x, hx⟩ : ∃ x, x = (eqL L)[m]'hml := ⟨_, rfl⟩
      obtain ⟨hxm, hxk, _, _, hxp⟩ := HO.out.eq (x := x) (by rw [hx]; exact List.getElem_mem hml)
      obtain ⟨_, _, e3⟩ := rdc_truth ts hxk
      have e4 := (rdc_tok ts x).2
      have HCE : Hid (∀ W, Below w.heap.size w W → W.cell? ⟨gq, m * 6, none⟩ = some (.string (nameD ts x)) ∧ W.cell? ⟨gq, m * 6 + 4, none⟩ = some (.int .i64 (placeD ts x : Nat))) := hide (fun W hW => by
        obtain ⟨y0, _, _, _, y4, _⟩ := rd_later HR.out.eqs hW hgq2 hml (rdc ts x) (by rw [hx])
        rw [e4] at y0
        rw [e3] at y4
        exact ⟨y0, y4⟩)
      have HST : Hid (acc ++ (routeTo ts L m x 4 ++ routesFrom ts L (m + 1) ((eqL L).drop (m + 1))) = routesR ts L) := hide (by
        rw [← HRC.out, List.drop_eq_getElem_cons hml, ← hx]; rfl)
      have j3 : (0 : Int) ≤ (m : Int) := by omega
      have j4 : (m : Int) < ((eqL L).length : Int) := by omega
      clear hx hxm hxk e3 e4 HRC
      go_wp2
      go_loopw [3, 5] (fun v vq wx => ∃ k : Nat, k ≤ 4 ∧ vq = .int .i64 k ∧ wx.ownsRow w.heap.size 89 3 v (acc ++ routeTo ts L m x k).length (rtCells (acc ++ routeTo ts L m x k)) ∧ Below w.heap.size w wx) (fun _ vq _ => 4 - (intOf vq).toNat)
      case atStart => exact ⟨0, Nat.zero_le _, rfl, by simpa [routeTo] using HOW.out, hbel⟩
      case round =>
        clear c4 hbel HOW
        obtain ⟨k, hk, rfl, hownx, hbx⟩ := hrel
        have HOX := hide hownx
        have HBX := hide hbx
        have hrl := routeTo_len ts L m x k
        have hbsx := hbx.size
        clear hownx
        by_cases hk4 : k < 4
        · have c4 := (HR.out.below hbx).c4
          obtain ⟨y0, y4⟩ := HCE.out wr hbx
          have HRP := hide (HR.out.below hbx)
          have z1 : (k : Int) < 4 := by omega
          have HRT : Hid (routeTo ts L m x (k + 1) = routeTo ts L m x k ++ routeAt ts L m x k) := hide rfl
          have HUI := hide (uses_in HO.out (nameD ts x).data.toList k)
          have hul := uses_le HO.out (nameD ts x).data.toList k
          have HCALL := hide (fun W hW => ruses_any W q g cap ts L vE vA vI (.slice (some ⟨gq, 0, none⟩) (eqL L).length cv) hW HO.out (nameD ts x) k)
          have HRA : Hid (routeAt ts L m x k = if usesR ts L (nameD ts x).data.toList k ≠ [] ∧ k ≠ placeD ts x then [⟨m, k, lateR ts (usesR ts L (nameD ts x).data.toList k)⟩] else []) := hide rfl
          generalize usesR ts L (nameD ts x).data.toList k = u at HUI HCALL HRA hul
          generalize nameD ts x = nm at y0 HCALL
          go_wp2_with fail
          refine (HCALL.out wr HRP.out).mono ?_
          rintro e w2 ⟨vu, rfl, hou, hb2⟩
          obtain ⟨au, cu, rfl, hshu⟩ := own_shape hou
          have hbw2 : Below w.heap.size w w2 := hbx.trans (hb2.mono hbx.size)
          have hbs2 := hbw2.size
          have c4' := (HR.out.below hbw2).c4
          have y4' := (HCE.out w2 hbw2).2
          have HO2 := hide (bel_own HOX.out hb2)
          have HOU := hide (And.intro hou hshu)
          clear hou hshu hb2 HCALL HOX y0 y4 c4 hbx HBX HRP
          by_cases hpl : k = placeD ts x
          · have q1 : ((k : Int) == ((placeD ts x : Nat) : Int)) = true := by rw [← hpl]; simp
            have HF : Hid (routeTo ts L m x (k + 1) = routeTo ts L m x k) := hide (by rw [HRT.out, HRA.out, if_neg (fun h => h.2 hpl), List.append_nil])
            clear hpl HRT HRA
            go_wp2
            go_roundw
            case rel => exact ⟨k + 1, by omega, by go_num, by rw [HF.out]; first | exact HO2.out | exact bel_own HO2.out (below_drewN (Below.refl _ _) _), by first | exact hbw2 | exact below_drewN hbw2 _⟩
            case measure => simp [intOf]; omega
          · have q1 : ((k : Int) == ((placeD ts x : Nat) : Int)) = false := by rw [beq_eq_false_iff_ne]; omega
            by_cases hue : u = []
            · have q2 : ((u.length : Int) == 0) = true := by rw [hue]; rfl
              have HF : Hid (routeTo ts L m x (k + 1) = routeTo ts L m x k) := hide (by rw [HRT.out, HRA.out, if_neg (fun h => h.1 hue), List.append_nil])
              clear hpl HRT HRA hue
              go_wp2
              go_roundw
              case rel => exact ⟨k + 1, by omega, by go_num, by rw [HF.out]; first | exact HO2.out | exact bel_own HO2.out (below_drewN (Below.refl _ _) _), by first | exact hbw2 | exact below_drewN hbw2 _⟩
              case measure => simp [intOf]; omega
            · have hup : 0 < u.length := List.length_pos_iff.2 hue
              have q2 : ((u.length : Int) == 0) = false := by rw [beq_eq_false_iff_ne]; omega
              have HF : Hid (routeTo ts L m x (k + 1) = routeTo ts L m x k ++ [⟨m, k, lateR ts u⟩]) := hide (by rw [HRT.out, HRA.out, if_pos ⟨hue, hpl⟩])
              obtain ⟨gu, rfl, _, hgu⟩ := HOU.out.2 hup
              clear hpl HRT HRA hue
              go_wp2
              go_loopw [7, 8] (fun vl vk wx => ∃ j : Nat, j ≤ u.length ∧ vk = .int .i64 j ∧ vl = .bool (lateR ts (u.take j)) ∧ Below w2.heap.size w2 wx) (fun _ vk _ => u.length - (intOf vk).toNat)
              case atStart => exact ⟨0, Nat.zero_le _, rfl, by simp [lateR], by first | exact Below.refl _ _ | exact below_drewN (Below.refl _ _) _⟩
              case round =>
                obtain ⟨j, hj, rfl, rfl, hbx⟩ := hrel
                have hbwx : Below w.heap.size w wr := hbw2.trans (hbx.mono hbw2.size)
                have hbsx2 := hbwx.size
                have c0 := (HR.out.below hbwx).c0
                by_cases hjl : j < u.length
                · obtain ⟨uj, huj⟩ : ∃ uj, uj = u[j]'hjl := ⟨_, rfl⟩
                  obtain ⟨h5, hul2⟩ := HUI.out uj (by rw [huj]; exact List.getElem_mem hjl)
                  have l1 : wr.cell? ⟨gu, j, none⟩ = some (.int .i64 (uj : Int)) := by
                    rw [hbx.cell (p := ⟨gu, j, none⟩) hgu, HOU.out.1.cellAt j (by omega)]
                    unfold pCells
                    rw [List.getElem?_map, List.getElem?_eq_getElem hjl, ← huj]; rfl
                  obtain ⟨p1, hp1⟩ : ∃ p1, uj = p1 + 1 := ⟨uj - 1, by omega⟩
                  obtain ⟨a, ha⟩ : ∃ a, a = rtok (tkAt ts p1) := ⟨_, rfl⟩
                  have x1 := (HR.out.toks.cells hbwx (show p1 < ts.length by omega) a ha).2.1
                  have hkw := (HO.out.F p1).kw kFby (by decide)
                  rw [← ha] at hkw
                  have hls : lateR ts (u.take (j + 1)) = (lateR ts (u.take j) && (lAt ts p1 == kFby)) := by
                    unfold lateR; rw [all_take_succ _ _ _ hjl, ← huj, hp1]; rfl
                  have HLS := hide hls
                  rw [hp1] at l1
                  have l1' : wr.cell? ⟨gu, j, none⟩ = some (.int .i64 ((p1 : Int) + 1)) := l1
                  have d1 : (0 : Int) ≤ (p1 : Int) := by omega
                  have d2 : (p1 : Int) < (ts.length : Int) := by omega
                  have d3 : (0 : Int) ≤ (j : Int) := by omega
                  have d4 : (j : Int) < (u.length : Int) := by omega
                  have hp15 : (p1 : Int) ≤ 1501 := by omega
                  generalize lateR ts (u.take j) = lt at HLS ⊢
                  clear hls huj l1 ha h5 hul2 hp1
                  cases lt
                  · have HL2 : Hid (lateR ts (u.take (j + 1)) = false) := hide (by rw [HLS.out]; rfl)
                    clear HLS hkw
                    go_wp2_with fail
                    go_quiet (fail)
                    go_wp2
                    go_roundw
                    case rel => exact ⟨j + 1, by omega, by go_num, by rw [HL2.out], by first | exact hbx | exact below_drewN hbx _⟩
                    case measure => simp [intOf]; omega
                  · by_cases hf : a.l = kFby
                    · have q3 := str_yes (t := a.word) hf
                      simp only [kFby] at q3
                      have HL2 : Hid (lateR ts (u.take (j + 1)) = true) := hide (by rw [HLS.out, show lAt ts p1 = kFby from hkw.1 hf]; rfl)
                      clear HLS hkw hf
                      go_wp2_with fail
                      go_quiet (fail)
                      go_wp2
                      go_roundw
                      case rel => exact ⟨j + 1, by omega, by go_num, by rw [HL2.out], by first | exact hbx | exact below_drewN hbx _⟩
                      case measure => simp [intOf]; omega
                    · have q3 := str_no (t := a.word) hf
                      simp only [kFby] at q3
                      have HL2 : Hid (lateR ts (u.take (j + 1)) = false) := hide (by rw [HLS.out, beq_eq_false_iff_ne.2 (fun e => hf (hkw.2 e))]; rfl)
                      clear HLS hkw hf
                      go_wp2_with fail
                      go_quiet (fail)
                      go_wp2
                      go_roundw
                      case rel => exact ⟨j + 1, by omega, by go_num, by rw [HL2.out], by first | exact hbx | exact below_drewN hbx _⟩
                      case measure => simp [intOf]; omega
                · have ej : j = u.length := by omega
                  subst ej
                  rw [List.take_length]
                  have z2 : ¬ (u.length : Int) < (u.length : Int) := by omega
                  have hown4 := bel_own HO2.out hbx
                  generalize lateR ts u = lt at HF ⊢
                  generalize hRT : routeTo ts L m x k = rt at HF hown4 hrl
                  clear hRT
                  have hal2 : (acc ++ rt).length ≤ 6100 := by rw [List.length_append]; omega
                  go_wp2_with (at_builtin; refine wpList_append_lies _ rfl _ _ _ rfl w.heap.size 89 i0 _ 3 24 Try.underlying46 hi0 hz0 hz1 hz2 rfl (by omega) _ (acc ++ rt).length (rtCells (acc ++ rt)) rfl (hown4.alloc _) ⟨wr.heap.size, 0, none⟩ 1 1 [.int .i64 (m : Int), .int .i64 (k : Int), .bool lt] rfl rfl (World.news_of_block (cs := #[.int .i64 (m : Int), .int .i64 (k : Int), .bool lt]) (t := 89) (fr := (0, 0)) (heap_alloc_new wr _)) (by simp [Value.oneCell']) (by omega) (by unfold maxLen; omega) (by omega) (by simp; omega) (wr.heap.size + 1) (by simp) ?_; intro g3 cap3 w3 hown3 hgrow hat hlt3)
                  go_roundw
                  case rel =>
                    refine ⟨k + 1, by omega, by go_num, ?_, ?_⟩
                    · rw [HF.out, ← List.append_assoc, rtCells_snoc, List.length_append, List.length_append]
                      rw [List.length_append] at hown3
                      exact hown3
                    · exact (hbwx.alloc hbwx.size _).grown hgrow (by simp; omega) (fun j hj => ownBlock_ge hown4 j hj)
                  case measure => simp [intOf]; omega
        · have ek : k = 4 := by omega
          subst ek
          have z1 : ¬ ((4 : Nat) : Int) < 4 := by omega
          go_wp2
          go_roundw
          case rel => exact ⟨m + 1, acc ++ routeTo ts L m x 4, by omega, by go_num, by rw [List.append_assoc]; exact HST.out, by rw [List.length_append, Nat.succ_mul]; omega, HOX.out, hbx⟩
          case measure => simp [intOf]; omega
    · have em : m = (eqL L).length := by omega
      subst em
      have z1 : ¬ ((eqL L).length : Int) < ((eqL L).length : Int) := by omega
      have hu := HRC.out
      rw [List.drop_length] at hu
      have hu2 : acc = routesR ts L := by rw [← hu]; simp [routesFrom]
      have HU2 := hide hu2
      clear hu hu2 HRC
      go_wp2
      go_ret
      exact ⟨_, rfl, by rw [← HU2.out]; exact HOW.out, by rw [← HU2.out]; omega, hbel⟩

end Go.Proofs.Ytmndgoapkmhglab
