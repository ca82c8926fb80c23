import Derived.Deep.LoopGhost
import Derived.Test.YtmndgoapkmhglaaM00Cut
import Derived.Test.YtmndgoapkmhglaaM05ParL
namespace Go.Proofs.Ytmndgoapkmhglaa
open Go.RowKit
attribute [local go_sem ↓] Go.wp_at_zero Go.wp_at_succ
attribute [local go_sem] Try.fieldTok0 Try.fieldTok1 Try.fieldTok2

theorem place_ok {ts : List Tk} (ht : TsOk ts) {p p' : PS} {r : Nat} (h : p.Wf ts) (he : placeF ts p = .ok (r, p')) : Step ts p p' ∧ p' = p.adv ts ∧ r < 4 := by
  unfold placeF at he
  split at he
  · rename_i hh
    cases he
    exact ⟨adv_step ht h (.inl (by rw [hh.1]; decide)), rfl, hh.2⟩
  · cases he

set_option maxHeartbeats 2000000 in
set_option maxRecDepth 100000 in
theorem equation_any {ts : List Tk} (ht : TsOk ts) (hdg : TsDig ts) (w : World) (X : Nat → Prop) (b kind : Nat) (p : PS) (h : Par w X b ts p) (hw : p.Wf ts) (hd0 : p.depth = 0) :
    Calls Try.prog 131 #[.pointer (some ⟨b, 0, none⟩), .int .i64 (kind : Int)] w fun e w' =>
      Res w' X b ts p.delays e (fun _ => .bool true) (fun e => e = .returned (.bool false)) (equationF ts kind p) ∧ Fr X w w' := by
  have hw1 := adv_wf hw
  have hw2 := adv_wf hw1
  have HD0 := hide hd0
  clear hd0
  by_cases hk : ((p.adv ts).hd ts).kind = 1
  · have HR0 : Hid (∀ R, (match PS.take ts ((p.adv ts).adv ts) kAt with
        | .error e => .error e
        | .ok p1 => match placeF ts p1 with
          | .error e => .error e
          | .ok (pl, p2) => match PS.take ts p2 [61] with
            | .error e => .error e
            | .ok p3 => match exprF ts 16 p3 with
              | .error e => .error e
              | .ok (r, p4) => PS.take ts (p4.declare ⟨kind, 0, ((p.adv ts).hd ts).text, ((p.adv ts).hd ts).pos, pl, r, p4.nodes.length⟩) [59]) = R → equationF ts kind p = R) := hide (by intro R hR; unfold equationF; rw [if_pos hk]; exact hR)
    have q1 : ((((p.adv ts).hd ts).kind : Int) != 1) = false := by rw [hk]; rfl
    clear hk
    go_enter Try.func131, Try.ntmps131
    go_wp2_with fail
    refine (step_any _ X b ts p h hw.next ht.1).mono ?_
    rintro e w1 ⟨rfl, hp1, hf1⟩
    go_wp2_with fail
    refine (here_any _ _ b ts (p.adv ts) hp1 hw1.next ht.1).mono ?_
    rintro e w2 ⟨rfl, hb2⟩
    have hP2 := hp1.below hb2
    have hF2 : Fr X w w2 := hf1.trans (hp1.fr hb2)
    clear hb2 hf1 hp1
    go_wp2_with fail
    refine (step_any _ (one X w2.heap.size) b ts (p.adv ts) (hP2.one _) hw1.next ht.1).mono ?_
    rintro e w3 ⟨rfl, hp3, hf3⟩
    have hN3 := (hf3.block _ (.inr rfl)).trans (heap_alloc_new w2 _)
    have hF3 : Fr X w w3 := hF2.trans ((Fr.of_below ((Below.refl _ _).alloc (Nat.le_refl _) _) hP2.xlt).trans (hf3.mono fun k hk => .inl hk))
    clear hf3 hF2 hP2
    have HN3 := hide hN3
    clear hN3
    go_wp2_with fail
    refine (take_any _ _ b ts _ kAt hp3 hw2.next ht.1).mono ?_
    rintro e w4 ⟨hr, hf4⟩
    have HF := hide (hF3.trans (hf4.mono fun k hk => .inl hk))
    have HN4 := hide ((hf4.block _ (.inr rfl)).trans HN3.out)
    clear hF3 hf4 hp3 HN3
    cases hy : PS.take ts ((p.adv ts).adv ts) kAt with
    | error k =>
      rw [hy] at hr
      obtain ⟨rfl, p', hp', hk1, hk2, hk3⟩ := hr
      have HR : Hid (equationF ts kind p = .error k) := hide (HR0.out _ (by rw [hy]))
      clear hy
      have HP := hide hp'
      have HK1 := hide hk1
      have HK3 := hide hk3
      clear hp' hk1 hk3
      go_wp2_with fail
      go_ret
      refine ⟨?_, HF.out⟩
      rw [HR.out]
      exact ⟨rfl, p', Par.less HP.out (fun k hk => .inl hk), HK1.out, hk2, by rw [HK3.out]; simp⟩
    | ok p3 =>
      rw [hy] at hr
      obtain ⟨rfl, hp4⟩ := hr
      have hs3 := (take_ok ht hw2 (by decide) hy).2
      have hw3 := hs3.wf hw2
      have hdl3 : p3.delays = p.delays := by rw [hs3.delays]; simp
      have hde3 : p3.depth = p.depth := by rw [hs3.depth]; simp
      have HY3 := hide hy
      have HDL3 := hide hdl3
      have HDE3 := hide hde3
      clear hy hs3 hdl3 hde3
      go_wp2_with fail
      refine (place_any _ _ b ts p3 hp4 hw3.next ht.1 hdg).mono ?_
      rintro e w5 ⟨hr, hf5⟩
      have HF := hide (HF.out.trans (hf5.mono fun k hk => .inl hk))
      have HN5 := hide ((hf5.block _ (.inr rfl)).trans HN4.out)
      clear hf5 hp4 HN4
      cases hy : placeF ts p3 with
      | error k =>
        rw [hy] at hr
        obtain ⟨v, p', rfl, hp', hk1, hk2, hk3⟩ := hr
        have HR : Hid (equationF ts kind p = .error k) := hide (HR0.out _ (by rw [HY3.out]; simp only; rw [hy]))
        clear hy
        have HP := hide hp'
        have HK1 := hide hk1
        have HK3 := hide hk3
        clear hp' hk1 hk3
        go_wp2_with fail
        go_ret
        refine ⟨?_, HF.out⟩
        rw [HR.out]
        exact ⟨rfl, p', Par.less HP.out (fun k hk => .inl hk), HK1.out, hk2, by rw [HK3.out]; exact HDL3.out⟩
      | ok pp =>
        obtain ⟨pl, p4⟩ := pp
        rw [hy] at hr
        obtain ⟨rfl, hp5⟩ := hr
        have hs4 := (place_ok ht hw3 hy).1
        have hw4 := hs4.wf hw3
        have HDL4 : Hid (p4.delays = p.delays) := hide (by rw [hs4.delays]; exact HDL3.out)
        have HDE4 : Hid (p4.depth = p.depth) := hide (by rw [hs4.depth]; exact HDE3.out)
        have HY4 := hide hy
        clear hy hs4
        go_wp2_with fail
        refine (take_any _ _ b ts p4 [61] hp5 hw4.next ht.1).mono ?_
        rintro e w6 ⟨hr, hf6⟩
        have HF := hide (HF.out.trans (hf6.mono fun k hk => .inl hk))
        have HN6 := hide ((hf6.block _ (.inr rfl)).trans HN5.out)
        clear hf6 hp5 HN5
        cases hy : PS.take ts p4 [61] with
        | error k =>
          rw [hy] at hr
          obtain ⟨rfl, p', hp', hk1, hk2, hk3⟩ := hr
          have HR : Hid (equationF ts kind p = .error k) := hide (HR0.out _ (by rw [HY3.out]; simp only; rw [HY4.out]; simp only; rw [hy]))
          clear hy
          have HP := hide hp'
          have HK1 := hide hk1
          have HK3 := hide hk3
          clear hp' hk1 hk3
          go_wp2_with fail
          go_ret
          refine ⟨?_, HF.out⟩
          rw [HR.out]
          exact ⟨rfl, p', Par.less HP.out (fun k hk => .inl hk), HK1.out, hk2, by rw [HK3.out]; exact HDL4.out⟩
        | ok p5 =>
          rw [hy] at hr
          obtain ⟨rfl, hp6⟩ := hr
          have hs5 := (take_ok ht hw4 (by decide) hy).2
          have hw5 := hs5.wf hw4
          have HDL5 : Hid (p5.delays = p.delays) := hide (by rw [hs5.delays]; exact HDL4.out)
          have HDE5 : Hid (p5.depth = 0) := hide (by rw [hs5.depth, HDE4.out]; exact HD0.out)
          have HY5 := hide hy
          clear hy hs5
          go_wp2_with fail
          refine (expr_any ht hdg 16 _ _ b p5 hp6 hw5 (by rw [HDE5.out])).mono ?_
          rintro e w7 ⟨hr, hf7⟩
          have HF := hide (HF.out.trans (hf7.mono fun k hk => .inl hk))
          have HN7 := hide ((hf7.block _ (.inr rfl)).trans HN6.out)
          clear hf7 hp6 HN6
          cases hy : exprF ts 16 p5 with
          | error k =>
            rw [hy] at hr
            obtain ⟨v, p', rfl, hp', hk1, hk2, hk3⟩ := hr
            have HR : Hid (equationF ts kind p = .error k) := hide (HR0.out _ (by rw [HY3.out]; simp only; rw [HY4.out]; simp only; rw [HY5.out]; simp only; rw [hy]))
            clear hy
            have HP := hide hp'
            have HK1 := hide hk1
            have HK3 := hide hk3
            clear hp' hk1 hk3
            go_wp2_with fail
            go_ret
            refine ⟨?_, HF.out⟩
            rw [HR.out]
            exact ⟨rfl, p', Par.less HP.out (fun k hk => .inl hk), HK1.out, hk2, by rw [HK3.out]; exact HDL5.out⟩
          | ok rp =>
            obtain ⟨r, p6⟩ := rp
            rw [hy] at hr
            obtain ⟨rfl, hp7⟩ := hr
            have hs6 := ((expr_ok ht 16 0 (by omega) p5 hw5 HDE5.out).1 _ _ hy).1
            have hw6 := hs6.wf hw5
            have HDL6 : Hid (p6.delays = p.delays) := hide (by rw [hs6.delays]; exact HDL5.out)
            have HY6 := hide hy
            have hdl : p6.decls.length ≤ 1501 := by have := hw6.decls; have := hw6.next; have := ht.1; omega
            have c5 : ∃ vn, w7.cell? ⟨b, 5, none⟩ = some vn ∧ ∃ a cap, vn = .slice a p6.nodes.length cap := by
              obtain ⟨_, _, vn, hv⟩ := hp7
              obtain ⟨a, cap, ha, _⟩ := own_shape hv.nodes
              exact ⟨vn, hv.cell.2.2.2.2.2, a, cap, ha⟩
            obtain ⟨vn, c5, av, cap, rfl⟩ := c5
            obtain ⟨d0, d1, d2⟩ := row3 HN7.out
            clear hy hs6
            go_wp2_with fail
            refine (declare_any _ _ b ts p6 ⟨kind, 0, ((p.adv ts).hd ts).text, ((p.adv ts).hd ts).pos, pl, r, p6.nodes.length⟩ hp7 hdl rfl).mono ?_
            rintro e w8 ⟨rfl, hp8, hf8⟩
            have HF := hide (HF.out.trans (hf8.mono fun k hk => .inl hk))
            clear hf8 d0 d1 d2 hp7 c5 HN7
            go_wp2_with fail
            refine (take_any _ _ b ts _ [59] hp8 hw6.next ht.1).mono ?_
            rintro e w9 ⟨hr, hf9⟩
            have HF := hide (HF.out.trans (hf9.mono fun k hk => .inl hk))
            clear hf9
            cases hy : PS.take ts (p6.declare ⟨kind, 0, ((p.adv ts).hd ts).text, ((p.adv ts).hd ts).pos, pl, r, p6.nodes.length⟩) [59] with
            | error k =>
              rw [hy] at hr
              obtain ⟨rfl, p', hp', hk1, hk2, hk3⟩ := hr
              have HR : Hid (equationF ts kind p = .error k) := hide (HR0.out _ (by rw [HY3.out]; simp only; rw [HY4.out]; simp only; rw [HY5.out]; simp only; rw [HY6.out]; simp only; rw [hy]))
              clear hy
              have HP := hide hp'
              have HK1 := hide hk1
              have HK3 := hide hk3
              clear hp' hk1 hk3
              go_wp2_with fail
              go_ret
              refine ⟨?_, HF.out⟩
              rw [HR.out]
              exact ⟨rfl, p', Par.less HP.out (fun k hk => .inl hk), HK1.out, hk2, by rw [HK3.out]; simp only [PS.declare]; exact HDL6.out⟩
            | ok p' =>
              rw [hy] at hr
              obtain ⟨rfl, hp'⟩ := hr
              have HR : Hid (equationF ts kind p = .ok p') := hide (HR0.out _ (by rw [HY3.out]; simp only; rw [HY4.out]; simp only; rw [HY5.out]; simp only; rw [HY6.out]; simp only; rw [hy]))
              have HP := hide hp'
              clear hy hp'
              go_wp2_with fail
              go_ret
              refine ⟨?_, HF.out⟩
              rw [HR.out]
              exact ⟨rfl, Par.less HP.out (fun k hk => .inl hk)⟩
  · have HR : Hid (equationF ts kind p = .error (p.adv ts).next) := hide (by unfold equationF; rw [if_neg hk])
    have q1 : ((((p.adv ts).hd ts).kind : Int) != 1) = true := by rw [bne_iff_ne]; omega
    clear hk
    go_enter Try.func131, Try.ntmps131
    go_wp2_with fail
    refine (step_any _ X b ts p h hw.next ht.1).mono ?_
    rintro e w1 ⟨rfl, hp1, hf1⟩
    go_wp2_with fail
    refine (here_any _ _ b ts (p.adv ts) hp1 hw1.next ht.1).mono ?_
    rintro e w2 ⟨rfl, hb2⟩
    have hP2 := hp1.below hb2
    have hF2 : Fr X w w2 := hf1.trans (hp1.fr hb2)
    clear hb2 hf1 hp1
    go_wp2_with fail
    go_ret
    refine ⟨?_, hF2.trans (Fr.of_below ((Below.refl _ _).alloc (Nat.le_refl _) _) hP2.xlt)⟩
    rw [HR.out]
    exact ⟨rfl, p.adv ts, hP2.below ((Below.refl _ _).alloc (Nat.le_refl _) _), rfl, hw1.next, by simp⟩

set_option maxHeartbeats 1000000 in
set_option maxRecDepth 100000 in
theorem declaration_any {ts : List Tk} (ht : TsOk ts) (hdg : TsDig ts) (w : World) (X : Nat → Prop) (b : Nat) (p : PS) (h : Par w X b ts p) (hw : p.Wf ts) (hd0 : p.depth = 0) :
    Calls Try.prog 101 #[.pointer (some ⟨b, 0, none⟩)] w fun e w' =>
      Res w' X b ts p.delays e (fun _ => .bool true) (fun e => e = .returned (.bool false)) (declarationF ts p) ∧ Fr X w w' := by
  have HX := hide h.xlt
  have join : ∀ (R : Except Nat PS) (w1 w2 : World) (e : Ending), Hid (declarationF ts p = R) → Fr X w w1 → Res w2 X b ts p.delays e (fun _ => .bool true) (fun e => e = .returned (.bool false)) R ∧ Fr X w1 w2 →
      ∃ bb, e = .returned (.bool bb) ∧ (Res w2 X b ts p.delays e (fun _ => .bool true) (fun e => e = .returned (.bool false)) (declarationF ts p) ∧ Fr X w w2) := by
    intro R w1 w2 e hR hf hr
    rw [hR.out]
    obtain ⟨h1, h2⟩ := hr
    cases R with
    | ok p' => exact ⟨true, h1.1, h1, hf.trans h2⟩
    | error k => exact ⟨false, h1.1, h1, hf.trans h2⟩
  by_cases h1 : (p.hd ts).l = kIn
  · have HR : Hid (declarationF ts p = inputF ts p) := hide (by unfold declarationF; rw [if_pos h1])
    have q1 := str_yes h1
    simp only [kIn] at q1
    have HJ := hide (join (inputF ts p))
    clear h1 join
    go_enter Try.func101, Try.ntmps101
    go_wp2_with fail
    refine (here_any _ _ b ts p h hw.next ht.1).mono ?_
    rintro e w1 ⟨rfl, hb1⟩
    go_wp2_with fail
    refine (input_any ht w1 X b p (h.below hb1) hw).mono ?_
    intro e w2 hr
    obtain ⟨bb, rfl, hfin⟩ := HJ.out w1 w2 e HR (h.fr hb1) hr
    have HFIN := hide hfin
    clear hfin hr hb1
    go_wp2_with fail
    go_ret
    exact HFIN.out
  have q1 := str_no h1
  simp only [kIn] at q1
  by_cases h2 : (p.hd ts).l = kInt
  · have HR : Hid (declarationF ts p = equationF ts 1 p) := hide (by unfold declarationF; rw [if_neg h1, if_pos h2])
    have q2 := str_yes h2
    simp only [kInt] at q2
    have HJ := hide (join (equationF ts 1 p))
    clear h1 h2 q1 join
    go_enter Try.func101, Try.ntmps101
    go_wp2_with fail
    refine (here_any _ _ b ts p h hw.next ht.1).mono ?_
    rintro e w1 ⟨rfl, hb1⟩
    go_wp2_with fail
    refine (equation_any ht hdg w1 X b 1 p (h.below hb1) hw hd0).mono ?_
    intro e w2 hr
    obtain ⟨bb, rfl, hfin⟩ := HJ.out w1 w2 e HR (h.fr hb1) hr
    have HFIN := hide hfin
    clear hfin hr hb1
    go_wp2_with fail
    go_ret
    exact HFIN.out
  have q2 := str_no h2
  simp only [kInt] at q2
  by_cases h3 : (p.hd ts).l = kBool
  · have HR : Hid (declarationF ts p = equationF ts 2 p) := hide (by unfold declarationF; rw [if_neg h1, if_neg h2, if_pos h3])
    have q3 := str_yes h3
    simp only [kBool] at q3
    have HJ := hide (join (equationF ts 2 p))
    clear h1 h2 h3 q1 q2 join
    go_enter Try.func101, Try.ntmps101
    go_wp2_with fail
    refine (here_any _ _ b ts p h hw.next ht.1).mono ?_
    rintro e w1 ⟨rfl, hb1⟩
    go_wp2_with fail
    refine (equation_any ht hdg w1 X b 2 p (h.below hb1) hw hd0).mono ?_
    intro e w2 hr
    obtain ⟨bb, rfl, hfin⟩ := HJ.out w1 w2 e HR (h.fr hb1) hr
    have HFIN := hide hfin
    clear hfin hr hb1
    go_wp2_with fail
    go_ret
    exact HFIN.out
  · have HR : Hid (declarationF ts p = .error p.next) := hide (by unfold declarationF; rw [if_neg h1, if_neg h2, if_neg h3])
    have q3 := str_no h3
    simp only [kBool] at q3
    clear h1 h2 h3 join
    go_enter Try.func101, Try.ntmps101
    go_wp2_with fail
    refine (here_any _ _ b ts p h hw.next ht.1).mono ?_
    rintro e w1 ⟨rfl, hb1⟩
    go_wp2_with fail
    go_ret
    refine ⟨?_, h.fr hb1⟩
    rw [HR.out]
    exact ⟨rfl, p, h.below hb1, rfl, hw.next, rfl⟩

end Go.Proofs.Ytmndgoapkmhglaa

namespace Go.Proofs.Ytmndgoapkmhglaa
open Go.RowKit
attribute [local go_sem ↓] Go.wp_at_zero Go.wp_at_succ
attribute [local go_sem] Try.fieldTok0 Try.fieldTok1 Try.fieldTok2

set_option maxHeartbeats 1000000 in
set_option maxRecDepth 100000 in
theorem find_any (w : World) (q o : Nat) (l : List Dc) (vd : Value) (name : ByteArray) (hc : w.cell? ⟨q, o, none⟩ = some vd) (hown : w.ownsRow 0 130 7 vd l.length (dcCells l)) (hl : l.length ≤ 1501) :
    Calls Try.prog 132 #[.pointer (some ⟨q, o, none⟩), .string name] w fun e w' => e = .returned (.int .i64 (findF l name)) ∧ Below w.heap.size w w' := by
  obtain ⟨av, cap, rfl, hsh⟩ := own_shape hown
  have HO := hide hown
  have HSH := hide hsh
  clear hown hsh
  go_enter Try.func132, Try.ntmps132
  go_wp2
  go_loopw [12] (fun i wr => ∃ k : Nat, k ≤ l.length ∧ i = .int .i64 k ∧ Below w.heap.size w wr ∧ ∀ j (hj : j < k) (hj2 : j < l.length), (l[j]'hj2).name.data.toList ≠ name.data.toList) (fun i _ => l.length - (intOf i).toNat)
  case atStart => exact ⟨0, Nat.zero_le _, rfl, Below.refl _ _, fun j hj => by omega⟩
  case round =>
    obtain ⟨k, hk, rfl, hbel, hne⟩ := hrel
    have HNE := hide hne
    clear hne
    by_cases hlt : k < l.length
    · obtain ⟨g, rfl, _, hg2⟩ := HSH.out (by omega)
      have hcs := dcAt_cells HO.out hlt
      obtain ⟨a, ha⟩ : ∃ a, a = l[k]'hlt := ⟨_, rfl⟩
      rw [← ha] at hcs
      have hcr : ∀ j, j < 7 → wr.cell? ⟨g, k * 7 + j, none⟩ = a.cells[j]? := fun j hj => (hbel.cell (p := ⟨g, k * 7 + j, none⟩) hg2).trans (hcs j hj)
      have x0 := hcr 0 (by omega)
      have x1 := hcr 1 (by omega)
      have x2 := hcr 2 (by omega)
      have x3 := hcr 3 (by omega)
      have x4 := hcr 4 (by omega)
      have x5 := hcr 5 (by omega)
      have x6 := hcr 6 (by omega)
      simp [Dc.cells] at x0 x1 x2 x3 x4 x5 x6
      have j1 : (0 : Int) ≤ (k : Int) := by omega
      have j2 : (k : Int) < (l.length : Int) := by omega
      have HA := hide ha
      clear hcs hcr ha
      by_cases he : a.name.data.toList = name.data.toList
      · have q1 : (a.name.toList == name.toList) = true := by rw [ByteArray.toList_eq, ByteArray.toList_eq]; simpa using he
        have HF : Hid (findF l name = (k : Int)) := hide (findF_hit l name k hlt (by rw [← HA.out]; exact he) (fun j hj => HNE.out j hj (by omega)))
        clear he
        go_wp2
        go_ret
        exact ⟨ret_intN HF.out.symm, hbel.alloc hbel.size _⟩
      · have q1 : (a.name.toList == name.toList) = false := by rw [ByteArray.toList_eq, ByteArray.toList_eq]; simpa using he
        have HE := hide he
        clear he
        go_wp2
        go_roundw
        case rel =>
          refine ⟨k + 1, by omega, by go_num, hbel.alloc hbel.size _, fun j hj hj2 => ?_⟩
          by_cases ej : j = k
          · subst ej; rw [← HA.out]; exact HE.out
          · exact HNE.out j (by omega) hj2
        case measure => simp [intOf]; omega
    · have HF : Hid (findF l name = -1) := hide (findF_miss l name (fun j hj => HNE.out j (by omega) hj))
      go_wp2
      go_ret
      exact ⟨ret_intN HF.out.symm, hbel⟩

/-- the first k nodes bound. -/
def mixB (p : PS) (k : Nat) : PS := { p with nodes := (p.nodes.take k).map (bindF p.decls) ++ p.nodes.drop k }
theorem mixB_zero (p : PS) : mixB p 0 = p := by simp [mixB]
theorem mixB_len (p : PS) (k : Nat) (h : k ≤ p.nodes.length) : (mixB p k).nodes.length = p.nodes.length := by simp [mixB]; omega
theorem mixB_at (p : PS) (k : Nat) (h : k < p.nodes.length) : (mixB p k).nodes[k]? = some (p.nodes[k]'h) := by
  have hl : ((p.nodes.take k).map (bindF p.decls)).length = k := by simp; omega
  show ((p.nodes.take k).map (bindF p.decls) ++ p.nodes.drop k)[k]? = _
  rw [List.getElem?_append_right (by omega), hl, Nat.sub_self, List.getElem?_drop]
  simp [h]
theorem mixB_succ (p : PS) (k : Nat) (h : k < p.nodes.length) : mixB p (k + 1) = { mixB p k with nodes := (mixB p k).nodes.set k (bindF p.decls (p.nodes[k]'h)) } := by
  unfold mixB
  congr 1
  have hl : ((p.nodes.take k).map (bindF p.decls)).length = k := by simp; omega
  rw [List.set_append_right _ _ (by omega), hl, Nat.sub_self, List.take_succ_eq_append_getElem h, List.map_append, List.append_assoc, List.drop_eq_getElem_cons h]
  rfl

/-- one cell of a node. -/
theorem ParV.setDecl {w : World} {X : Nat → Prop} {b : Nat} {ts : List Tk} {p : PS} {vt vd : Value} {g cap : Nat} (h : ParV w X b ts p vt vd (.slice (some ⟨g, 0, none⟩) p.nodes.length cap)) {k : Nat} (hk : k < p.nodes.length) (i : Int) :
    ParV (w.setCell ⟨g, k * 11 + 4, none⟩ (.int .i64 i)) X b ts { p with nodes := p.nodes.set k { (p.nodes[k]'hk) with decl := i } } vt vd (.slice (some ⟨g, 0, none⟩) p.nodes.length cap) ∧ Fr X w (w.setCell ⟨g, k * 11 + 4, none⟩ (.int .i64 i)) := by
  obtain ⟨h1, h2⟩ := h.nodes.stored (k * 11 + 4) (.int .i64 i)
  have hlen : (ndCells p.nodes).length = p.nodes.length * 11 := h.nodes.1
  have e : (ndCells p.nodes).set (k * 11 + 4) (.int .i64 i) = ndCells (p.nodes.set k { (p.nodes[k]'hk) with decl := i }) := by
    have e1 : ndCells (p.nodes.set k { (p.nodes[k]'hk) with decl := i }) = (ndCells p.nodes).take (k * 11) ++ ({ (p.nodes[k]'hk) with decl := i } : Nd).cells ++ (ndCells p.nodes).drop (k * 11 + 11) := flat_set Nd.cells 11 nd_len _ p.nodes k hk
    have e2 : ndCells p.nodes = (ndCells p.nodes).take (k * 11) ++ (p.nodes[k]'hk).cells ++ (ndCells p.nodes).drop (k * 11 + 11) := by
      have := flat_set Nd.cells 11 nd_len (p.nodes[k]'hk) p.nodes k hk
      rw [List.set_getElem_self] at this
      exact this
    have hl : ((ndCells p.nodes).take (k * 11)).length = k * 11 := by rw [List.length_take]; omega
    rw [e1]
    conv => lhs; rw [e2]
    rw [List.append_assoc, List.set_append_right _ _ (by omega), hl, show k * 11 + 4 - k * 11 = 4 from by omega, List.set_append_left _ _ (by rw [nd_len]; omega), List.append_assoc]
    rfl
  rw [e] at h1
  have hb : some b ≠ some g := fun e => h.nb (by simp [Value.ownBlock, Option.some.inj e])
  refine ⟨⟨(h2.block b h.lt hb).trans h.at_b, h.toks.kept h2 (.inr fun e => h.tn g e rfl), h.decls.kept h2 (.inr fun e => h.dn g e rfl), ?_, h.tb, h.db, h.nb, h.td, h.tn, h.dn, fun k hk => Nat.lt_of_lt_of_le (h.xlt k hk) h2.size, h.xb, h.xd, h.xn, h.xt⟩, ?_⟩
  · simpa using h1
  · exact ⟨h2.os, h2.tape, h2.output, h2.size, fun j hj => h2.block j (h.xlt j hj) (fun e => h.xn g rfl (by rw [← Option.some.inj e]; exact hj))⟩

theorem cell43 (g k : Nat) (w : World) (v : Value) : (w.setCell ⟨g, k * 11 + 4, none⟩ v).cell? ⟨g, k * 11 + 3, none⟩ = w.cell? ⟨g, k * 11 + 3, none⟩ :=
  World.cell?_setCell_other _ _ _ _ (by intro h; have := congrArg Addr.off h; simp at this)

set_option maxHeartbeats 2000000 in
set_option maxRecDepth 100000 in
theorem bind_any {ts : List Tk} (w : World) (X : Nat → Prop) (b : Nat) (p : PS) (h : Par w X b ts p) (hnl : p.nodes.length ≤ 1501) (hdl : p.decls.length ≤ 1501) :
    Calls Try.prog 102 #[.pointer (some ⟨b, 0, none⟩)] w fun e w' => e = .returned (.tuple #[]) ∧ Par w' X b ts { p with nodes := p.nodes.map (bindF p.decls) } ∧ Fr X w w' := by
  have HP0 := hide h
  obtain ⟨vt0, vd0, vn0, hv0⟩ := h
  have c5 := hv0.cell.2.2.2.2.2
  obtain ⟨av0, cap0, rfl, _⟩ := own_shape hv0.nodes
  clear hv0
  go_enter Try.func102, Try.ntmps102
  go_wp2
  clear c5
  go_loopw [9] (fun i wr => ∃ k : Nat, k ≤ p.nodes.length ∧ i = .int .i64 k ∧ Par wr X b ts (mixB p k) ∧ Fr X w wr) (fun i _ => p.nodes.length - (intOf i).toNat)
  case atStart => exact ⟨0, Nat.zero_le _, rfl, by rw [mixB_zero]; exact HP0.out, Fr.refl _ _⟩
  case round =>
    obtain ⟨k, hk, rfl, hpr, hfr⟩ := hrel
    by_cases hlt : k < p.nodes.length
    · obtain ⟨vt, vd, vn, hv⟩ := hpr
      have hml := mixB_len p k hk
      have hkm : k < (mixB p k).nodes.length := by omega
      have c5 := hv.cell.2.2.2.2.2
      have c4 := hv.cell.2.2.2.2.1
      have hdec := hv.decls
      have lb := hv.lt
      obtain ⟨g, cap, rfl, _, glt⟩ := hv.nodes.form (by omega)
      have nbg : g ≠ b := by rintro rfl; exact hv.nb rfl
      have nbg' := nbg.symm
      have c43 := cell43 g k
      have hcs := ndAt_cells hv.nodes hkm
      have yF : ∀ i, wr.frozen? ⟨g, i, none⟩ = false := fun i => hv.nodes.frozenAt i
      have hat : (mixB p k).nodes[k]'hkm = p.nodes[k]'hlt := by
        have := mixB_at p k hlt
        rw [List.getElem?_eq_getElem hkm] at this
        exact Option.some.inj this
      rw [hat] at hcs
      obtain ⟨a, ha⟩ : ∃ a, a = p.nodes[k]'hlt := ⟨_, rfl⟩
      rw [← ha] at hcs
      have x0 := hcs 0 (by omega)
      have x3 := hcs 3 (by omega)
      have x4 := hcs 4 (by omega)
      simp [Nd.cells] at x0 x3 x4
      rw [hml] at c5
      have j1 : (0 : Int) ≤ (k : Int) := by omega
      have j2 : (k : Int) < (p.nodes.length : Int) := by omega
      have HS := hide (mixB_succ p k hlt)
      have HV := hide hv
      have HA := hide ha
      have HAT := hide hat
      clear hv hcs ha hat
      by_cases hk2 : a.kind = 2
      · have q1 : ((a.kind : Int) == 2) = true := by rw [hk2]; rfl
        have HK2 := hide hk2
        clear hk2
        go_wp2_with fail
        go_region_held3 (fun w' => w'.cell? ⟨b, 5, none⟩ = some (.slice (some ⟨g, 0, none⟩) p.nodes.length cap) ∧ w'.cell? ⟨g, k * 11 + 3, none⟩ = some (.string a.name)) (go_keep)
          ((go_at_call 132; refine (find_any _ b 4 (mixB p k).decls vd a.name ?_ ?_ hdl).mono ?_; (simpa using c4); (exact hdec.drew); rintro e w' ⟨rfl, hbelF⟩; have kt := (hbelF.cell (p := ⟨g, k * 11 + 4, none⟩) (by simpa using glt)).trans x4; have kf := (hbelF.frozen (p := ⟨g, k * 11 + 4, none⟩) (by simpa using glt)).trans (yF _); have kb := (hbelF.cell (p := ⟨b, 5, none⟩) (by simpa using lb)).trans c5; have kn := (hbelF.cell (p := ⟨g, k * 11 + 3, none⟩) (by simpa using glt)).trans x3))
        rename_i hHeld
        clear hHeld
        have hv' : ParV w' X b ts (mixB p k) vt vd (.slice (some ⟨g, 0, none⟩) (mixB p k).nodes.length cap) := (HV.out.below ((Below.refl _ _).drew)).below hbelF
        have hset := hv'.setDecl hkm (findF (mixB p k).decls a.name)
        have HSET := hide hset
        have HBF := hide hbelF
        clear hv' hset hbelF kt kf kb kn c4 c5 x0 x3 x4 yF
        go_wp2
        go_roundw
        case rel =>
          refine ⟨k + 1, by omega, by go_num, ?_, ?_⟩
          · rw [HS.out]
            have e : bindF p.decls (p.nodes[k]'hlt) = { (mixB p k).nodes[k]'hkm with decl := findF (mixB p k).decls a.name } := by
              rw [HAT.out, ← HA.out]; unfold bindF; rw [if_pos HK2.out]; rfl
            rw [e]
            exact ⟨_, _, _, HSET.out.1⟩
          · exact (hfr.trans (Fr.of_below (((Below.refl _ _).drew).trans HBF.out) HV.out.xlt)).trans HSET.out.2
        case measure => simp [intOf]; omega
      · have q1 : ((a.kind : Int) == 2) = false := by rw [beq_eq_false_iff_ne]; omega
        have HK2 := hide hk2
        clear hk2
        go_wp2
        go_roundw
        case rel =>
          refine ⟨k + 1, by omega, by go_num, ?_, hfr⟩
          rw [HS.out]
          have e : bindF p.decls (p.nodes[k]'hlt) = (mixB p k).nodes[k]'hkm := by
            rw [HAT.out, ← HA.out]; unfold bindF; rw [if_neg HK2.out]
          rw [e, List.set_getElem_self]
          exact ⟨_, _, _, HV.out⟩
        case measure => simp [intOf]; omega
    · have ek : k = p.nodes.length := by omega
      have e : mixB p k = { p with nodes := p.nodes.map (bindF p.decls) } := by rw [ek]; simp [mixB]
      rw [e] at hpr
      have HPR := hide hpr
      have HFR := hide hfr
      clear hpr hfr e ek
      go_wp2
      go_end0
      exact ⟨rfl, HPR.out, HFR.out⟩

end Go.Proofs.Ytmndgoapkmhglaa

namespace Go.Proofs.Ytmndgoapkmhglaa
open Go.RowKit
attribute [local go_sem ↓] Go.wp_at_zero Go.wp_at_succ
attribute [local go_sem] Try.fieldTok0 Try.fieldTok1 Try.fieldTok2

/-- the parser as Parse lays it. -/
theorem par_start {w : World} {X : Nat → Prop} {ts : List Tk} {vt : Value} {B : Nat} (h : w.ownsRow B 126 3 vt ts.length (tkCells ts)) (hX : ∀ k, X k → k < B) (hB : B ≤ w.heap.size) :
    Par (w.alloc (.cells #[vt, .int .i64 0, .int .i64 0, .int .i64 0, .slice none 0 0, .slice none 0 0] 160)) X w.heap.size ts pZero := by
  have hlt := h.lt
  refine ⟨vt, .slice none 0 0, .slice none 0 0, heap_alloc_new w _, (own_zero h).alloc _, World.ownsRow_nil _ _ _ _, World.ownsRow_nil _ _ _ _, ?_, by simp [Value.ownBlock], by simp [Value.ownBlock], by simp [Value.ownBlock], by simp [Value.ownBlock], by simp [Value.ownBlock], ?_, ?_, by simp [Value.ownBlock], by simp [Value.ownBlock], ?_⟩
  · intro e; have := (hlt _ e).2; omega
  · intro k hk; have := hX k hk; simp; omega
  · intro hk; have := hX _ hk; omega
  · intro g hg hk; have := (hlt g hg).1; have := hX g hk; omega

/-- what Parse answers. -/
def ParseRes (w w' : World) (e : Ending) (s : ByteArray) : Except Nat PS → Prop
  | .ok p => ∃ vd vn, e = .returned (.tuple #[.agg #[vd, vn], .int .i64 0, .bool true]) ∧ w'.ownsRow w.heap.size 130 7 vd p.decls.length (dcCells p.decls) ∧
      w'.ownsRow w.heap.size 180 11 vn p.nodes.length (ndCells (p.nodes.map (bindF p.decls))) ∧ (∀ g, vd.ownBlock = some g → vn.ownBlock ≠ some g)
  | .error k => e = .returned (.tuple #[.agg #[.slice none 0 0, .slice none 0 0], .int .i64 ((tkAt (toks s) k).pos : Int), .bool false])

theorem own_base {w : World} {B e size n : Nat} {v : Value} {xs : List Value} (h : w.ownsRow 0 e size v n xs) (hb : ∀ g, v.ownBlock = some g → B ≤ g) : w.ownsRow B e size v n xs := by
  refine ⟨h.1, ?_⟩
  rcases h.2 with h0 | ⟨g, cap, cur, hv, _, hr⟩
  · exact .inl h0
  · exact .inr ⟨g, cap, cur, hv, hb g (by rw [hv]; rfl), hr⟩

set_option maxHeartbeats 1000000 in
set_option maxRecDepth 100000 in
theorem parse_any (s : ByteArray) (w : World) (hs : s.size ≤ 1500) :
    Calls Try.prog 68 #[.string s] w fun e w' => ParseRes w w' e s (parseF s) ∧ Below w.heap.size w w' := by
  have ht := toks_ok s hs
  have hdg := toks_dig s
  go_enter Try.func68, Try.ntmps68
  go_wp2_with fail
  refine (tokens_any s _ hs).mono ?_
  rintro e w1 ⟨vt, rfl, hown, hb1⟩
  have hR1 := (hb1.block w.heap.size (by simp)).trans (heap_alloc_new w _)
  have hB1 : Below w.heap.size w w1 := ((Below.refl _ _).alloc (Nat.le_refl _) _).trans (hb1.mono (by simp))
  have hsz1 : w.heap.size + 1 ≤ w1.heap.size := by have := hb1.size; simpa using this
  have hP0 := par_start (X := fun k => k < w.heap.size + 1) hown (by simp) (by simpa using hsz1)
  obtain ⟨g, cap, rfl, _, _⟩ := hown.form (by have := ht.pos; omega)
  have HT := hide ht
  have HDG := hide hdg
  have HP0 := hide hP0
  clear hown hb1 ht hdg hP0
  go_wp2_with fail
  go_loopg [9] (toks s).length (fun m _ wr => ∃ p, Par wr (fun k => k < w.heap.size + 1) w1.heap.size (toks s) p ∧ p.Wf (toks s) ∧ p.depth = 0 ∧ Fr (fun k => k < w.heap.size + 1) w1 wr ∧ (toks s).length - p.next ≤ m ∧ declsF (toks s) m p = parseF s)
  case atStart => exact ⟨pZero, HP0.out, pZero_wf HT.out, rfl, Fr.of_below ((Below.refl _ _).alloc (Nat.le_refl _) _) (fun k hk => by omega), by simp, rfl⟩
  case round =>
    obtain ⟨p, hpr, hwf, hd0, hfr, hm, hdec⟩ := hrel
    have HD0 := hide hd0
    have HDEC := hide hdec
    have hnx := hwf.next
    clear hd0 hdec
    go_wp2_with fail
    refine (here_any _ _ _ (toks s) p hpr hnx HT.out.1).mono ?_
    rintro e w2 ⟨rfl, hb2⟩
    have hP2 := hpr.below hb2
    have hF2 := hfr.trans (hpr.fr hb2)
    clear hpr hb2 hfr
    by_cases hk : (p.hd (toks s)).kind = 0
    · have q1 : (((p.hd (toks s)).kind : Int) != 0) = false := by rw [hk]; rfl
      have HR : Hid (parseF s = .ok p) := hide (by
        rw [← HDEC.out]
        cases gk with
        | zero => omega
        | succ m => unfold declsF; rw [if_pos hk])
      clear hk
      go_wp2_with fail
      refine (bind_any _ _ _ p hP2 (by have := hwf.nodes; have := HT.out.1; omega) (by have := hwf.decls; have := HT.out.1; omega)).mono ?_
      rintro e w3 ⟨rfl, hp3, hf3⟩
      have hF3 := hF2.trans hf3
      clear hP2 hf3 hF2
      obtain ⟨vt3, vd3, vn3, hv3⟩ := hp3
      obtain ⟨ad, cd, rfl, _⟩ := own_shape hv3.decls
      obtain ⟨an, cn, rfl, _⟩ := own_shape hv3.nodes
      have hln : ({ p with nodes := p.nodes.map (bindF p.decls) } : PS).nodes.length = p.nodes.length := by simp
      have hld : ({ p with nodes := p.nodes.map (bindF p.decls) } : PS).decls.length = p.decls.length := rfl
      have c4 := hv3.cell.2.2.2.2.1
      have c5 := hv3.cell.2.2.2.2.2
      have hR3 := (hF3.block w.heap.size (by omega)).trans hR1
      have r0 : w3.cell? ⟨w.heap.size, 0, none⟩ = some (.slice none 0 0) := by rw [cell_of_row w3 _ 0 _ _ _ hR3]; rfl
      have r1 : w3.cell? ⟨w.heap.size, 1, none⟩ = some (.slice none 0 0) := by rw [cell_of_row w3 _ 1 _ _ _ hR3]; rfl
      have rF : ∀ i, w3.frozen? ⟨w.heap.size, i, none⟩ = false := fun i => frozen_of_row w3 _ i _ _ hR3
      have HV := hide hv3
      have HF3 := hide hF3
      rw [hln] at c5
      rw [hld] at c4
      clear hv3 hF3 hR3
      go_wp2
      refine bodyPost_ret (v := .tuple #[.agg #[.slice ad p.decls.length cd, .slice an p.nodes.length cn], .int .i64 0, .bool true]) (by simp [results, Try.results68, go_sem, *]) rfl ?_
      refine ⟨?_, ?_⟩
      · rw [HR.out]
        have hg : ∀ {e size n : Nat} {v : Value} {xs : List Value}, w3.ownsRow 0 e size v n xs → (∀ g, v.ownBlock = some g → ¬ g < w.heap.size + 1) →
            ((w3.setCell ⟨w.heap.size, 0, none⟩ (.slice ad p.decls.length cd)).setCell ⟨w.heap.size, 1, none⟩ (.slice an p.nodes.length cn)).ownsRow w.heap.size e size v n xs := by
          intro e size n v xs ho hx
          have k1 : w3.grownBy (w3.setCell ⟨w.heap.size, 0, none⟩ (.slice ad p.decls.length cd)) (some w.heap.size) := ⟨rfl, rfl, rfl, by simp, fun k _ hk => heap_setCell_other _ ⟨w.heap.size, 0, none⟩ k _ (fun e => hk (by simp [e]))⟩
          have k2 : (w3.setCell ⟨w.heap.size, 0, none⟩ (.slice ad p.decls.length cd)).grownBy ((w3.setCell ⟨w.heap.size, 0, none⟩ (.slice ad p.decls.length cd)).setCell ⟨w.heap.size, 1, none⟩ (.slice an p.nodes.length cn)) (some w.heap.size) := ⟨rfl, rfl, rfl, by simp, fun k _ hk => heap_setCell_other _ ⟨w.heap.size, 1, none⟩ k _ (fun e => hk (by simp [e]))⟩
          have hne : v.ownBlock ≠ some w.heap.size := fun e => hx _ e (by omega)
          exact own_base ((ho.kept k1 (.inr hne)).kept k2 (.inr hne)) (fun g hg => by have := hx g hg; omega)
        refine ⟨_, _, rfl, hg HV.out.decls HV.out.xd, ?_, ?_⟩
        · have := hg HV.out.nodes HV.out.xn
          rw [hln] at this
          exact this
        · have := HV.out.dn
          rw [hln] at this
          exact this
      · exact ((hB1.trans ((HF3.out.mono (Y := fun k => k < w.heap.size) (fun k hk => by show k < _; omega)).to_below)).setCell (Nat.le_refl _) _).setCell (Nat.le_refl _) _
    · have q1 : (((p.hd (toks s)).kind : Int) != 0) = true := by rw [bne_iff_ne]; omega
      have HKD := hide hk
      clear hk
      go_wp2_with fail
      refine (declaration_any HT.out HDG.out _ _ _ p hP2 hwf HD0.out).mono ?_
      rintro e w3 ⟨hr, hf3⟩
      have hF3 := hF2.trans hf3
      clear hP2 hf3 hF2
      cases hy : declarationF (toks s) p with
      | error k =>
        rw [hy] at hr
        obtain ⟨rfl, p', hp', hk1, hk2, _⟩ := hr
        have HR : Hid (parseF s = .error k) := hide (by
          rw [← HDEC.out]
          cases gk with
          | zero => omega
          | succ m => unfold declsF; rw [if_neg HKD.out, hy])
        have hn' : p'.next < (toks s).length := by omega
        have HK1 := hide hk1
        clear hy hk1
        go_wp2_with fail
        refine (here_any _ _ _ (toks s) p' hp' hn' HT.out.1).mono ?_
        rintro e w4 ⟨rfl, hb4⟩
        have hF4 := hF3.trans (hp'.fr hb4)
        have hR4 := (hF4.block w.heap.size (by omega)).trans hR1
        have r0 : w4.cell? ⟨w.heap.size, 0, none⟩ = some (.slice none 0 0) := by rw [cell_of_row w4 _ 0 _ _ _ hR4]; rfl
        have r1 : w4.cell? ⟨w.heap.size, 1, none⟩ = some (.slice none 0 0) := by rw [cell_of_row w4 _ 1 _ _ _ hR4]; rfl
        have rF : ∀ i, w4.frozen? ⟨w.heap.size, i, none⟩ = false := fun i => frozen_of_row w4 _ i _ _ hR4
        have HF4 := hide hF4
        clear hF3 hF4 hb4 hp' hR4
        go_wp2
        refine bodyPost_ret (v := .tuple #[.agg #[.slice none 0 0, .slice none 0 0], .int .i64 ((p'.hd (toks s)).pos : Int), .bool false]) (by simp [results, Try.results68, go_sem, *]) rfl ?_
        refine ⟨?_, ?_⟩
        · rw [HR.out]
          show _ = _
          rw [← HK1.out]
          rfl
        · exact ((hB1.trans ((HF4.out.mono (Y := fun k => k < w.heap.size) (fun k hk => by show k < _; omega)).to_below)).setCell (Nat.le_refl _) _).setCell (Nat.le_refl _) _
      | ok p' =>
        rw [hy] at hr
        obtain ⟨rfl, hp'⟩ := hr
        have hds := declaration_step HT.out hwf HD0.out hy
        have HY := hide hy
        clear hy
        go_wp2_with fail
        go_roundg (gk - 1)
        case measure => omega
        case rel =>
          refine ⟨p', hp', hds.wf, by rw [hds.depth]; exact HD0.out, hF3, by have := hds.lt; omega, ?_⟩
          rw [← HDEC.out]
          cases gk with
          | zero => omega
          | succ m => simp only [declsF, Nat.add_sub_cancel]; rw [if_neg HKD.out, HY.out]

end Go.Proofs.Ytmndgoapkmhglaa

namespace Go.Proofs.Ytmndgoapkmhglaa
open Go.RowKit
attribute [local go_sem ↓] Go.wp_at_zero Go.wp_at_succ
attribute [local go_sem] Try.fieldTok0 Try.fieldTok1 Try.fieldTok2

/-- A PROGRAM IN MEMORY, behind a pointer. -/
structure ProgAt (w : World) (q : Nat) (ds : List Dc) (ns : List Nd) (vd vn : Value) : Prop where
  lt : q < w.heap.size
  c0 : w.cell? ⟨q, 0, none⟩ = some vd
  c1 : w.cell? ⟨q, 1, none⟩ = some vn
  decls : w.ownsRow 0 130 7 vd ds.length (dcCells ds)
  nodes : w.ownsRow 0 180 11 vn ns.length (ndCells ns)

theorem ProgAt.below {w w' : World} {q : Nat} {ds : List Dc} {ns : List Nd} {vd vn : Value} (h : ProgAt w q ds ns vd vn) (hb : Below w.heap.size w w') : ProgAt w' q ds ns vd vn :=
  ⟨Nat.lt_of_lt_of_le h.lt hb.size, (hb.cell h.lt).trans h.c0, (hb.cell h.lt).trans h.c1, bel_own h.decls hb, bel_own h.nodes hb⟩

def optVal (o : Option Nat) : Value := .tuple #[.int .i64 ((o.getD 0 : Nat) : Int), .bool o.isSome]
theorem opt_some {o : Option Nat} {a : Nat} (h : o = some a) : Ending.returned (.tuple #[.int .i64 (a : Int), .bool true]) = .returned (optVal o) := by rw [h]; rfl
theorem opt_none {o : Option Nat} (h : o = none) : Ending.returned (.tuple #[.int .i64 0, .bool false]) = .returned (optVal o) := by rw [h]; rfl

theorem drop_at {α : Type} (l : List α) (k : Nat) (h : k < l.length) : l.drop k = (l[k]'h) :: l.drop (k + 1) := List.drop_eq_getElem_cons h

/-- the cells of declaration k, in a later world. -/
theorem dc_later {w wr : World} {g cap : Nat} {l : List Dc} (h : w.ownsRow 0 130 7 (.slice (some ⟨g, 0, none⟩) l.length cap) l.length (dcCells l)) (hb : Below w.heap.size w wr) (hg : g < w.heap.size) {k : Nat} (hk : k < l.length) (a : Dc) (ha : a = l[k]'hk) :
    wr.cell? ⟨g, k * 7, none⟩ = some (.int .i64 (a.kind : Int)) ∧ wr.cell? ⟨g, k * 7 + 1, none⟩ = some (.int .i64 (a.number : Int)) ∧ wr.cell? ⟨g, k * 7 + 2, none⟩ = some (.string a.name) ∧ wr.cell? ⟨g, k * 7 + 3, none⟩ = some (.int .i64 (a.pos : Int)) ∧
    wr.cell? ⟨g, k * 7 + 4, none⟩ = some (.int .i64 (a.place : Int)) ∧ wr.cell? ⟨g, k * 7 + 5, none⟩ = some (.int .i64 (a.root : Int)) ∧ wr.cell? ⟨g, k * 7 + 6, none⟩ = some (.int .i64 (a.fin : Int)) := by
  have hcs := dcAt_cells h hk
  rw [← ha] at hcs
  have hcr : ∀ j, j < 7 → wr.cell? ⟨g, k * 7 + j, none⟩ = a.cells[j]? := fun j hj => (hb.cell (p := ⟨g, k * 7 + j, none⟩) hg).trans (hcs j hj)
  exact ⟨hcr 0 (by omega), hcr 1 (by omega), hcr 2 (by omega), hcr 3 (by omega), hcr 4 (by omega), hcr 5 (by omega), hcr 6 (by omega)⟩

theorem nd_later {w wr : World} {g cap : Nat} {l : List Nd} (h : w.ownsRow 0 180 11 (.slice (some ⟨g, 0, none⟩) l.length cap) l.length (ndCells l)) (hb : Below w.heap.size w wr) (hg : g < w.heap.size) {k : Nat} (hk : k < l.length) (a : Nd) (ha : a = l[k]'hk) :
    wr.cell? ⟨g, k * 11, none⟩ = some (.int .i64 (a.kind : Int)) ∧ wr.cell? ⟨g, k * 11 + 1, none⟩ = some (.int .i64 (a.pos : Int)) ∧ wr.cell? ⟨g, k * 11 + 2, none⟩ = some (.int .i64 (a.value : Int)) ∧ wr.cell? ⟨g, k * 11 + 3, none⟩ = some (.string a.name) ∧
    wr.cell? ⟨g, k * 11 + 4, none⟩ = some (.int .i64 a.decl) ∧ wr.cell? ⟨g, k * 11 + 5, none⟩ = some (.int .i64 (a.op : Int)) ∧ wr.cell? ⟨g, k * 11 + 6, none⟩ = some (.int .i64 (a.a : Int)) ∧ wr.cell? ⟨g, k * 11 + 7, none⟩ = some (.int .i64 (a.b : Int)) ∧
    wr.cell? ⟨g, k * 11 + 8, none⟩ = some (.int .i64 (a.c : Int)) ∧ wr.cell? ⟨g, k * 11 + 9, none⟩ = some (.bool a.delayed) ∧ wr.cell? ⟨g, k * 11 + 10, none⟩ = some (.bool a.behind) := by
  have hcs := ndAt_cells h hk
  rw [← ha] at hcs
  have hcr : ∀ j, j < 11 → wr.cell? ⟨g, k * 11 + j, none⟩ = a.cells[j]? := fun j hj => (hb.cell (p := ⟨g, k * 11 + j, none⟩) hg).trans (hcs j hj)
  exact ⟨hcr 0 (by omega), hcr 1 (by omega), hcr 2 (by omega), hcr 3 (by omega), hcr 4 (by omega), hcr 5 (by omega), hcr 6 (by omega), hcr 7 (by omega), hcr 8 (by omega), hcr 9 (by omega), hcr 10 (by omega)⟩

set_option maxHeartbeats 1000000 in
set_option maxRecDepth 100000 in
theorem tooMany_any (w : World) (q : Nat) (ds : List Dc) (ns : List Nd) (vd vn : Value) (h : ProgAt w q ds ns vd vn) (hdl : ds.length ≤ 1501) :
    Calls Try.prog 103 #[.pointer (some ⟨q, 0, none⟩)] w fun e w' => e = .returned (optVal (tooManyF ds)) ∧ Below w.heap.size w w' := by
  have c0 := h.c0
  obtain ⟨av, cap, rfl, hsh⟩ := own_shape h.decls
  have HO := hide h.decls
  have HSH := hide hsh
  clear h hsh
  go_enter Try.func103, Try.ntmps103
  go_wp2
  go_loopw [12] (fun i wr => ∃ k : Nat, k ≤ ds.length ∧ i = .int .i64 k ∧ Below w.heap.size w wr ∧ tooManyF (ds.drop k) = tooManyF ds) (fun i _ => ds.length - (intOf i).toNat)
  case atStart => exact ⟨0, Nat.zero_le _, rfl, Below.refl _ _, rfl⟩
  case round =>
    obtain ⟨k, hk, rfl, hbel, hrec⟩ := hrel
    by_cases hlt : k < ds.length
    · obtain ⟨g, rfl, _, hg2⟩ := HSH.out (by omega)
      rw [drop_at ds k hlt] at hrec
      obtain ⟨a, ha⟩ : ∃ a, a = ds[k]'hlt := ⟨_, rfl⟩
      rw [← ha] at hrec
      obtain ⟨x0, x1, x2, x3, x4, x5, x6⟩ := dc_later HO.out hbel hg2 hlt a ha
      have j1 : (0 : Int) ≤ (k : Int) := by omega
      have j2 : (k : Int) < (ds.length : Int) := by omega
      simp only [tooManyF] at hrec
      have HREC := hide hrec
      clear ha hrec c0
      by_cases hkd : a.kind = 0
      · have q0 : ((a.kind : Int) == 0) = true := by rw [hkd]; rfl
        have HM : Hid (most a = 4) := hide (by unfold most; rw [if_pos hkd])
        clear hkd
        by_cases hn : 4 ≤ a.number
        · have q1 : (4 : Int) ≤ (a.number : Int) := by omega
          go_wp2
          go_ret2
          exact ⟨opt_some (by rw [← HREC.out, HM.out, if_pos hn]), hbel.alloc hbel.size _⟩
        · have q1 : ¬ (4 : Int) ≤ (a.number : Int) := by omega
          go_wp2
          go_roundw
          case rel => exact ⟨k + 1, by omega, by go_num, hbel.alloc hbel.size _, by rw [← HREC.out, HM.out, if_neg hn]⟩
          case measure => simp [intOf]; omega
      · have q0 : ((a.kind : Int) == 0) = false := by rw [beq_eq_false_iff_ne]; omega
        have HM : Hid (most a = 12) := hide (by unfold most; rw [if_neg hkd])
        clear hkd
        by_cases hn : 12 ≤ a.number
        · have q1 : (12 : Int) ≤ (a.number : Int) := by omega
          go_wp2
          go_ret2
          exact ⟨opt_some (by rw [← HREC.out, HM.out, if_pos hn]), hbel.alloc hbel.size _⟩
        · have q1 : ¬ (12 : Int) ≤ (a.number : Int) := by omega
          go_wp2
          go_roundw
          case rel => exact ⟨k + 1, by omega, by go_num, hbel.alloc hbel.size _, by rw [← HREC.out, HM.out, if_neg hn]⟩
          case measure => simp [intOf]; omega
    · have HF : Hid (tooManyF ds = none) := hide (by rw [← hrec, List.drop_of_length_le (by omega)]; rfl)
      clear hrec
      go_wp2
      go_ret2
      exact ⟨opt_none HF.out, hbel⟩

set_option maxHeartbeats 400000 in
theorem takesTruths_any (op : Nat) (w : World) : Calls Try.prog 134 #[.int .i64 (op : Int)] w fun e w' => e = .returned (.bool (takesT op)) ∧ w = w' := by
  by_cases h1 : op = 11
  · have HF : Hid (takesT op = true) := hide (by rw [h1]; rfl)
    have q1 : ((op : Int) == 11) = true := by rw [h1]; rfl
    clear h1
    go_enter Try.func134, Try.ntmps134
    go_wp2
    go_ret
    exact ⟨by rw [HF.out]; rfl, rfl⟩
  · have q1 : ((op : Int) == 11) = false := by rw [beq_eq_false_iff_ne]; omega
    by_cases h2 : op = 12
    · have HF : Hid (takesT op = true) := hide (by rw [h2]; rfl)
      have q2 : ((op : Int) == 12) = true := by rw [h2]; rfl
      clear h1 h2
      go_enter Try.func134, Try.ntmps134
      go_wp2
      go_ret
      exact ⟨by rw [HF.out]; rfl, rfl⟩
    · have HF : Hid (takesT op = false) := hide (by simp [takesT, h1, h2])
      have q2 : ((op : Int) == 12) = false := by rw [beq_eq_false_iff_ne]; omega
      clear h1 h2
      go_enter Try.func134, Try.ntmps134
      go_wp2
      go_ret
      exact ⟨by rw [HF.out]; rfl, rfl⟩

set_option maxHeartbeats 400000 in
theorem makesTruth_any (op : Nat) (w : World) : Calls Try.prog 155 #[.int .i64 (op : Int)] w fun e w' => e = .returned (.bool (makesT op)) ∧ w = w' := by
  by_cases h1 : op = 9
  · have HF : Hid (makesT op = true) := hide (by rw [h1]; rfl)
    have q1 : ((op : Int) == 9) = true := by rw [h1]; rfl
    clear h1
    go_enter Try.func155, Try.ntmps155
    go_wp2
    go_ret
    exact ⟨by rw [HF.out]; rfl, rfl⟩
  · have q1 : ((op : Int) == 9) = false := by rw [beq_eq_false_iff_ne]; omega
    by_cases h2 : op = 10
    · have HF : Hid (makesT op = true) := hide (by rw [h2]; rfl)
      have q2 : ((op : Int) == 10) = true := by rw [h2]; rfl
      clear h1 h2
      go_enter Try.func155, Try.ntmps155
      go_wp2
      go_ret
      exact ⟨by rw [HF.out]; rfl, rfl⟩
    · have HF : Hid (makesT op = takesT op) := hide (by simp [makesT, h1, h2])
      have q2 : ((op : Int) == 10) = false := by rw [beq_eq_false_iff_ne]; omega
      clear h1 h2
      go_enter Try.func155, Try.ntmps155
      go_wp2_with (go_at_call 134; refine (takesTruths_any _ _).mono ?_; rintro e w' ⟨rfl, rfl⟩)
      go_ret
      exact ⟨by rw [HF.out]; rfl, rfl⟩

end Go.Proofs.Ytmndgoapkmhglaa
