import Derived.Test.Ytmndgoapkmhglabc31RefJ
namespace Go.Proofs.Ytmndgoapkmhglab
open Go.RowKit
attribute [local go_sem ↓] Go.wp_at_zero Go.wp_at_succ

theorem any_take_succ {α : Type} (p : α → Bool) (l : List α) (m : Nat) (h : m < l.length) : (l.take (m + 1)).any p = ((l.take m).any p || p (l[m]'h)) := by
  rw [List.take_succ_eq_append_getElem h, List.any_append]; simp

theorem find_range {p : Nat → Bool} (n k : Nat) (h : k < n) : (List.range' k (n - k)).find? p = if p k = true then some k else (List.range' (k + 1) (n - (k + 1))).find? p := by
  rw [show n - k = (n - (k + 1)) + 1 by omega, List.range'_succ, List.find?_cons]
  cases p k <;> rfl

set_option maxHeartbeats 2000000 in
set_option maxRecDepth 100000 in
theorem rnames_any (w : World) (q g cap : Nat) (ts : List Tk) (L : List Dl) (vE vA vI vQ : Value) (h : RProg w q g cap ts L vE vA vI vQ) (ho : ROk ts L) (hp : ∀ i, (tkAt ts i).pos ≤ 1500) :
    Calls Try.prog 61 #[.pointer (some ⟨q, 0, none⟩)] w fun e w' => e = .returned (optI (namesR ts L)) ∧ Below w.heap.size w w' := by
  obtain ⟨av, cv, rfl, hsh⟩ := own_shape h.all
  obtain ⟨hm1, hm2, hm3⟩ := ho.many
  have c0 := h.c0
  have hlen := ho.len
  have HR := hide h
  have HO := hide ho
  have HP := hide hp
  have HSH := hide hsh
  clear h ho hp hsh
  go_enter Try.func61, Try.ntmps61
  go_wp2
  go_loopw [3] (fun i wr => ∃ (k : Nat), k ≤ ts.length ∧ i = .int .i64 k ∧ Below w.heap.size w wr ∧ ((List.range' k (ts.length - k)).find? (badNm ts L)).map (fun k => (tkAt ts k).pos) = namesR ts L) (fun i _ => ts.length - (intOf i).toNat)
  case atStart => exact ⟨0, Nat.zero_le _, rfl, Below.refl _ _, rfl⟩
  case round =>
    clear c0
    obtain ⟨k, hk, rfl, hbel, hrec⟩ := hrel
    have c0 := (HR.out.below hbel).c0
    by_cases hlt : k < ts.length
    · obtain ⟨a, ha⟩ : ∃ a, a = rtok (tkAt ts k) := ⟨_, rfl⟩
      obtain ⟨x0, x1, x2, x3⟩ := HR.out.toks.cells hbel hlt a ha
      have j1 : (0 : Int) ≤ (k : Int) := by omega
      have j2 : (k : Int) < (ts.length : Int) := by omega
      rw [find_range _ _ hlt] at hrec
      have hc := c97 (tkAt ts k)
      rw [← ha] at hc
      by_cases hnm : (tkAt ts k).kind = 1
      · have q1 : ((a.c : Int) != 97) = false := by
          have hc' : a.c = 97 := by rw [hnm] at hc; simpa using hc
          rw [hc']; rfl
        have hw : a.word = (tkAt ts k).text := by rw [ha]; unfold rtok; simp [hnm]
        have hbn : badNm ts L k = qNm ts L k := by unfold badNm isNm; rw [hnm]; rfl
        rw [hbn] at hrec
        have HRC := hide hrec
        have HWD := hide hw
        have HPO : Hid ((tkAt ts k).pos = a.pos) := hide (by rw [ha]; rfl)
        have c2 : ∀ o, (wr.alloc o).cell? ⟨q, 2, none⟩ = some (.slice av L.length cv) := fun o => by rw [World.cell?_alloc_past _ _ _ (HR.out.below hbel).lt]; exact (HR.out.below hbel).c2
        clear hrec hbn hc hnm ha hw
        go_wp2
        generalize hB : wr.heap.size = B
        go_loopw [5, 6, 7, 8] (fun va vh vs vj wx => ∃ m : Nat, m ≤ L.length ∧ vj = .int .i64 m ∧ va = .bool (aheadR ts (L.take m) k) ∧ vh = .bool (hereR (L.take m) k) ∧ vs = .bool (someR ts (L.take m) k) ∧ Below w.heap.size w wx ∧ wx.cell? ⟨B, 1, none⟩ = some (.string a.word) ∧ wx.cell? ⟨B, 2, none⟩ = some (.int .i64 (a.pos : Int)) ∧ B < wx.heap.size ∧ w.heap.size ≤ B) (fun _ _ _ vj _ => L.length - (intOf vj).toNat)
        case atStart =>
          subst hB
          exact ⟨0, Nat.zero_le _, rfl, by simp [aheadR], by simp [hereR], by simp [someR], hbel.alloc hbel.size _, by simp, by simp, by simp, hbel.size⟩
        case round =>
          clear hB x0 x1 x2 x3 c0 c2 hbel
          obtain ⟨m, hm, rfl, rfl, rfl, rfl, hbx, t1, t2, hBl, hBw⟩ := hrel
          have c2 := (HR.out.below hbx).c2
          by_cases hml : m < L.length
          · obtain ⟨gA, capA, hvA, hgA, hcA⟩ := row_at HR.out.all hml
            cases hvA
            obtain ⟨x, hx⟩ : ∃ x, x = L[m]'hml := ⟨_, rfl⟩
            obtain ⟨d, hd⟩ : ∃ d, d = rdc ts x := ⟨_, rfl⟩
            obtain ⟨y0, y1, y2, y3, y4, y5⟩ := hcA wr hbx d (by rw [hd, hx])
            have hdt : d.tok = x.i + 1 ∧ d.name = nameD ts x := by rw [hd]; exact rdc_tok ts x
            have hdl : d.tok < ts.length := by rw [hd]; exact HO.out.tok (by rw [hx]; exact List.getElem_mem hml)
            obtain ⟨t, qT⟩ : ∃ t, ((d.tok : Int) == (k : Int)) = t := ⟨_, rfl⟩
            obtain ⟨e, qE⟩ : ∃ e, (d.name.toList == a.word.toList) = e := ⟨_, rfl⟩
            have eT : (x.i + 1 == k) = t := by rw [← qT, ← hdt.1, beq_cast]
            have eE : ((nameD ts x).data.toList == lAt ts k) = e := by
              rw [← qE, ← hdt.2, ByteArray.toList_eq, ByteArray.toList_eq, HWD.out]; rfl
            have eU : decide (x.i + 1 < k) = decide (d.tok < k) := by rw [hdt.1]
            have HH : Hid (hereR (L.take (m + 1)) k = (hereR (L.take m) k || t)) := hide (by
              unfold hereR; rw [any_take_succ _ _ _ hml, ← hx, eT])
            have HS : Hid (someR ts (L.take (m + 1)) k = (someR ts (L.take m) k || e)) := hide (by
              unfold someR; rw [any_take_succ _ _ _ hml, ← hx, eE])
            have HA : Hid (aheadR ts (L.take (m + 1)) k = (aheadR ts (L.take m) k || (e && decide (d.tok < k)))) := hide (by
              unfold aheadR; rw [any_take_succ _ _ _ hml, ← hx, eE, eU])
            generalize hereR (L.take m) k = b1 at HH ⊢
            generalize someR ts (L.take m) k = b2 at HS ⊢
            generalize aheadR ts (L.take m) k = b3 at HA ⊢
            have j3 : (0 : Int) ≤ (m : Int) := by omega
            have j4 : (m : Int) < (L.length : Int) := by omega
            have hc1 : b1 = true ∨ (b1 = false ∧ t = true) ∨ (b1 = false ∧ t = false) := by cases b1 <;> cases t <;> simp
            have hc2 : (b2 = true ∧ b3 = true) ∨ (b2 = true ∧ b3 = false ∧ e = false) ∨ (b2 = true ∧ b3 = false ∧ e = true) ∨ (b2 = false ∧ b3 = true ∧ e = true) ∨ (b2 = false ∧ b3 = true ∧ e = false) ∨ (b2 = false ∧ b3 = false ∧ e = false) ∨ (b2 = false ∧ b3 = false ∧ e = true) := by
              cases b2 <;> cases b3 <;> cases e <;> simp
            have HBX := hide hbx
            clear hcA hd hx hdt eT eE eU
            rcases hc1 with rfl | ⟨rfl, rfl⟩ | ⟨rfl, rfl⟩
            all_goals
              rcases hc2 with ⟨rfl, rfl⟩ | ⟨rfl, rfl, rfl⟩ | ⟨rfl, rfl, rfl⟩ | ⟨rfl, rfl, rfl⟩ | ⟨rfl, rfl, rfl⟩ | ⟨rfl, rfl, rfl⟩ | ⟨rfl, rfl, rfl⟩
            all_goals
              go_wp2
              go_roundw
              case rel => exact ⟨m + 1, by omega, by go_num, by rw [HA.out]; rfl, by rw [HH.out]; rfl, by rw [HS.out]; rfl, HBX.out.alloc HBX.out.size _, by rw [World.cell?_alloc_past _ _ _ hBl]; exact t1, by rw [World.cell?_alloc_past _ _ _ hBl]; exact t2, by simp; omega, hBw⟩
              case measure => simp [intOf]; omega
          · have em : m = L.length := by omega
            subst em
            rw [List.take_length]
            have z1 : ¬ (L.length : Int) < (L.length : Int) := by omega
            have hqn : qNm ts L k = ((hereR L k && aheadR ts L k) || !someR ts L k) := rfl
            have hrc := HRC.out
            rw [hqn] at hrc
            have hps := HP.out k
            rw [HPO.out] at hps
            generalize hereR L k = b1 at hrc ⊢
            generalize someR ts L k = b2 at hrc ⊢
            generalize aheadR ts L k = b3 at hrc ⊢
            have HRX := hide hrc
            have HBX := hide hbx
            clear hrc hqn
            cases b1 <;> cases b2 <;> cases b3
            all_goals
              first
              | (have HF : Hid (namesR ts L = some a.pos) := hide (by
                   rw [← HRX.out]
                   simp [HPO.out])
                 clear HRX HRC
                 go_wp2
                 go_ret
                 exact ⟨by rw [HF.out]; rfl, HBX.out⟩)
              | (have HN : Hid (((List.range' (k + 1) (ts.length - (k + 1))).find? (badNm ts L)).map (fun k => (tkAt ts k).pos) = namesR ts L) := hide (by
                   rw [← HRX.out]
                   simp)
                 clear HRX HRC
                 go_wp2
                 go_roundw
                 case rel => exact ⟨k + 1, by omega, by go_num, HBX.out, HN.out⟩
                 case measure => simp [intOf]; omega)
      · have q1 : ((a.c : Int) != 97) = true := by
          have hc' : a.c ≠ 97 := fun e => hnm (by rw [e] at hc; simpa using hc.symm)
          rw [bne_iff_ne]; omega
        have hb : badNm ts L k = false := badNm_no (by unfold isNm; exact beq_eq_false_iff_ne.2 hnm)
        rw [hb, if_neg (by simp)] at hrec
        have HRC := hide hrec
        clear hrec hb hc hnm ha
        go_wp2
        go_roundw
        case rel => exact ⟨k + 1, by omega, by go_num, hbel.alloc hbel.size _, HRC.out⟩
        case measure => simp [intOf]; omega
    · have e0 : ts.length - k = 0 := by omega
      rw [e0] at hrec
      have HF : Hid (namesR ts L = none) := hide (by rw [← hrec]; rfl)
      have z1 : ¬ (k : Int) < (ts.length : Int) := by omega
      clear hrec e0
      go_wp2
      go_ret
      exact ⟨by rw [HF.out]; rfl, hbel⟩

end Go.Proofs.Ytmndgoapkmhglab
