import Derived.Test.YtmndgoapkmhglaaDoorM08AstA
import Derived.Test.YtmndgoapkmhglaaDoorM19RefJ
namespace Go.Proofs.YtmndgoapkmhglaaDoor
open Go.RowKit
attribute [local go_sem ↓] Go.wp_at_zero Go.wp_at_succ

theorem sp_near {ts : List Tk} (hF : ∀ i, TkF (tkAt ts i)) {t : Ast} {i : Nat} (h : Sp ts t i) (hl : i + t.len < ts.length) (h40 : lAt ts i = [40]) :
    i + 1 < ts.length ∧ (lAt ts (i + 1) ≠ kNot → lAt ts (i + 1) ≠ kIf → behindF ts (i + 1) < ts.length) := by
  have hp := t.len_pos
  cases t with
  | leaf => exact absurd h40 h.2
  | neg a => simp only [Ast.len] at hl; exact ⟨by omega, fun h1 _ => absurd h.2.1 h1⟩
  | ite a b c => simp only [Ast.len] at hl; exact ⟨by omega, fun _ h2 => absurd h.2.1 h2⟩
  | dly b =>
    simp only [Ast.len] at hl
    have hlf : leafT (tkAt ts (i + 1)) = true := by unfold leafT; rw [h.2.1]; rfl
    refine ⟨by omega, fun _ _ => ?_⟩
    rw [behind_sp hF .leaf (i + 1) ⟨hlf, (leaf_ne2 hF hlf).2.2.1⟩ (by simp only [Ast.len]; omega)]
    simp only [Ast.len]; omega
  | bin a b =>
    simp only [Ast.len] at hl
    refine ⟨by omega, fun _ _ => ?_⟩
    rw [behind_sp hF a (i + 1) h.2.1 (by omega)]; omega

theorem rdc_truth (ts : List Tk) {x : Dl} (h : x.kind ≠ 0) : (rdc ts x).truth = (x.kind == 2) ∧ (rdc ts x).body = x.i + 5 ∧ (rdc ts x).place = placeD ts x := by unfold rdc; rw [if_neg h]; exact ⟨rfl, rfl, rfl⟩

/-- the token in its box, in a later world. -/
theorem tok_box (t : RTk) (w : World) {w1 : World} (hb : Below (w.heap.size + 1) (w.alloc (.cells #[.int .u8 (t.c : Int), .string t.word, .int .i64 (t.pos : Int), .int .i64 (t.n : Int)] 45)) w1) :
    w1.cell? ⟨w.heap.size, 0, none⟩ = some (.int .u8 (t.c : Int)) ∧ w1.cell? ⟨w.heap.size, 1, none⟩ = some (.string t.word) ∧ Below w.heap.size w w1 := by
  have hb' : Below (w.alloc (.cells #[.int .u8 (t.c : Int), .string t.word, .int .i64 (t.pos : Int), .int .i64 (t.n : Int)] 45)).heap.size (w.alloc (.cells #[.int .u8 (t.c : Int), .string t.word, .int .i64 (t.pos : Int), .int .i64 (t.n : Int)] 45)) w1 := by
    have e : (w.alloc (.cells #[.int .u8 (t.c : Int), .string t.word, .int .i64 (t.pos : Int), .int .i64 (t.n : Int)] 45)).heap.size = w.heap.size + 1 := by simp
    rw [e]; exact hb
  obtain ⟨a, b, _, _, c⟩ := tok_step t w w1 hb'
  exact ⟨a, b, c⟩

set_option maxHeartbeats 2000000 in
theorem ris_any (w : World) (q g cap : Nat) (ts : List Tk) (L : List Dl) (vE vA vI vQ : Value) (h : RProg w q g cap ts L vE vA vI vQ) (ho : ROk ts L) (t : Ast) (i : Nat) (hs : Sp ts t i) (hl : i + t.len < ts.length) :
    Calls Tryd.prog 63 #[.pointer (some ⟨q, 0, none⟩), .int .i64 (i : Int)] w fun e w' => e = .returned (.int .u8 (isR ts L i : Nat)) ∧ Below w.heap.size w w' := by
  have hlen := ho.len
  have hpos := ho.pos
  have hnear := sp_near ho.F hs hl
  obtain ⟨hm1, hm2, hm3⟩ := ho.many
  obtain ⟨av, cv, rfl, hsh⟩ := own_shape h.eqs
  obtain ⟨gE, capE, rfl, _, hgE⟩ := h.ends.form (by omega)
  have hil : i < ts.length := by omega
  obtain ⟨a, ha⟩ : ∃ a, a = rtok (tkAt ts i) := ⟨_, rfl⟩
  have c0 := h.c0
  obtain ⟨x0, x1, x2, x3⟩ := h.toks.cells (Below.refl _ _) hil a ha
  have hc1 := c97 (tkAt ts i)
  have hc3 := c110 (tkAt ts i)
  rw [← ha] at hc1 hc3
  have hk40 := (ho.F i).kw [40] (by decide)
  rw [← ha] at hk40
  have j1 : (0 : Int) ≤ (i : Int) := by omega
  have j2 : (i : Int) < (ts.length : Int) := by omega
  have HR := hide h
  have HO := hide ho
  have HSH := hide hsh
  clear h ho hsh hs
  by_cases hk1 : (tkAt ts i).kind = 1
  · have q1 : ((a.c : Int) == 97) = true := by rw [show (97 : Int) = ((97 : Nat) : Int) from rfl, beq_cast, hc1, hk1]; rfl
    have hw : a.word = (tkAt ts i).text := by rw [ha]; unfold rtok; simp [hk1]
    have HIS : Hid (isR ts L i = if nameT ts L i then 116 else 110) := hide (by unfold isR; rw [if_pos hk1])
    have HWD := hide hw
    have c4 : ∀ o, (w.alloc o).cell? ⟨q, 4, none⟩ = some (.slice av (eqL L).length cv) := fun o => by rw [World.cell?_alloc_past _ _ _ HR.out.lt]; exact HR.out.c4
    clear hw hk1 ha hc1 hc3 hk40 hnear
    go_enter Tryd.func63, Tryd.ntmps63
    go_wp2
    go_loopw [6] (fun vj wx => ∃ m : Nat, m ≤ (eqL L).length ∧ vj = .int .i64 m ∧ Below (w.heap.size + 1) (w.alloc (.cells #[.int .u8 (a.c : Int), .string a.word, .int .i64 (a.pos : Int), .int .i64 (a.n : Int)] 45)) wx ∧ ((eqL L).drop m).any (fun x => (nameD ts x).data.toList == lAt ts i && x.kind == 2) = nameT ts L i) (fun vj _ => (eqL L).length - (intOf vj).toNat)
    case atStart => exact ⟨0, Nat.zero_le _, rfl, Below.refl _ _, rfl⟩
    case round =>
      clear c4 c0 x0 x1 x2 x3
      obtain ⟨m, hm, rfl, hbx, hrec⟩ := hrel
      obtain ⟨t0, t1, hbw⟩ := tok_box a w hbx
      have c4 := (HR.out.below hbw).c4
      by_cases hml : m < (eqL L).length
      · obtain ⟨gq, hgq, _, hgq2⟩ := HSH.out (by omega)
        subst hgq
        obtain ⟨x, hx⟩ : ∃ x, x = (eqL L)[m]'hml := ⟨_, rfl⟩
        have hxk := (HO.out.eq (x := x) (by rw [hx]; exact List.getElem_mem hml)).2.1
        obtain ⟨d, hd⟩ : ∃ d, d = rdc ts x := ⟨_, rfl⟩
        obtain ⟨y0, y1, y2, y3, y4, y5⟩ := rd_later HR.out.eqs hbw hgq2 hml d (by rw [hd, hx])
        have hdn : d.name = nameD ts x := by rw [hd]; exact (rdc_tok ts x).2
        have hdt : d.truth = (x.kind == 2) := by rw [hd]; exact (rdc_truth ts hxk).1
        rw [List.drop_eq_getElem_cons hml, ← hx, List.any_cons] at hrec
        obtain ⟨ee, qE⟩ : ∃ ee, (d.name.toList == a.word.toList) = ee := ⟨_, rfl⟩
        have eE : ((nameD ts x).data.toList == lAt ts i) = ee := by
          rw [← qE, ← hdn, ByteArray.toList_eq, ByteArray.toList_eq, HWD.out]; rfl
        rw [eE, ← hdt] at hrec
        generalize d.truth = tr at hrec y3
        have HRC := hide hrec
        have j3 : (0 : Int) ≤ (m : Int) := by omega
        have j4 : (m : Int) < ((eqL L).length : Int) := by omega
        clear hrec hdn hdt hd hx eE hxk
        have hc : ee = false ∨ (ee = true ∧ tr = false) ∨ (ee = true ∧ tr = true) := by cases ee <;> cases tr <;> simp
        rcases hc with rfl | ⟨rfl, rfl⟩ | ⟨rfl, rfl⟩
        · have HR2 : Hid (((eqL L).drop (m + 1)).any (fun x => (nameD ts x).data.toList == lAt ts i && x.kind == 2) = nameT ts L i) := hide (by rw [← HRC.out]; simp)
          clear HRC
          go_wp2_with fail
          go_quiet (fail)
          go_wp2
          go_roundw
          case rel => exact ⟨m + 1, by omega, by go_num, by first | exact hbx | exact below_drewN hbx _, HR2.out⟩
          case measure => simp [intOf]; omega
        · have HR2 : Hid (((eqL L).drop (m + 1)).any (fun x => (nameD ts x).data.toList == lAt ts i && x.kind == 2) = nameT ts L i) := hide (by rw [← HRC.out]; simp)
          clear HRC
          go_wp2_with fail
          go_quiet (fail)
          go_wp2
          go_roundw
          case rel => exact ⟨m + 1, by omega, by go_num, by first | exact hbx | exact below_drewN hbx _, HR2.out⟩
          case measure => simp [intOf]; omega
        · have HR2 : Hid (nameT ts L i = true) := hide (by rw [← HRC.out]; simp)
          clear HRC
          go_wp2_with fail
          go_quiet (fail)
          go_wp2
          go_ret
          exact ⟨by rw [HIS.out, HR2.out]; rfl, by first | exact hbw | exact below_drewN hbw _⟩
      · have em : m = (eqL L).length := by omega
        subst em
        rw [List.drop_length] at hrec
        have HR2 : Hid (nameT ts L i = false) := hide (by rw [← hrec]; rfl)
        have z1 : ¬ ((eqL L).length : Int) < ((eqL L).length : Int) := by omega
        clear hrec
        go_wp2
        go_ret
        exact ⟨by rw [HIS.out, HR2.out]; rfl, hbw⟩
  have q1 : ((a.c : Int) == 97) = false := by rw [show (97 : Int) = ((97 : Nat) : Int) from rfl, beq_cast, hc1]; exact beq_eq_false_iff_ne.2 hk1
  by_cases hk3 : (tkAt ts i).kind = 3
  · have q2 : ((a.c : Int) == 110) = true := by rw [show (110 : Int) = ((110 : Nat) : Int) from rfl, beq_cast, hc3, hk3]; rfl
    have HIS : Hid (isR ts L i = 110) := hide (by unfold isR; rw [if_neg hk1, if_pos hk3])
    clear ha hc1 hc3 hk40 hnear hk1 hk3
    go_enter Tryd.func63, Tryd.ntmps63
    go_wp2
    go_ret
    exact ⟨by rw [HIS.out]; rfl, (Below.refl _ _).alloc (Nat.le_refl _) _⟩
  have q2 : ((a.c : Int) == 110) = false := by rw [show (110 : Int) = ((110 : Nat) : Int) from rfl, beq_cast, hc3]; exact beq_eq_false_iff_ne.2 hk3
  by_cases h40 : a.l = [40]
  case neg =>
    have q3 := str_no (t := a.word) h40
    have HIS : Hid (isR ts L i = 116) := hide (by unfold isR; rw [if_neg hk1, if_neg hk3, if_pos (fun h => h40 (hk40.2 h))])
    clear ha hc1 hc3 hk40 hnear hk1 hk3 h40
    go_enter Tryd.func63, Tryd.ntmps63
    go_wp2
    go_ret
    exact ⟨by rw [HIS.out]; rfl, (Below.refl _ _).alloc (Nat.le_refl _) _⟩
  have q3 := str_yes (t := a.word) h40
  have hIS0 : isR ts L i = if lAt ts (i + 1) = kNot then 116 else if lAt ts (i + 1) = kIf then 63 else opR (lAt ts (behindF ts (i + 1))) := isR_open HO.out.F (hk40.1 h40)
  obtain ⟨hi1, hbl⟩ := hnear (hk40.1 h40)
  obtain ⟨a1, ha1⟩ : ∃ a, a = rtok (tkAt ts (i + 1)) := ⟨_, rfl⟩
  have c0a : ∀ o, (w.alloc o).cell? ⟨q, 0, none⟩ = some (.slice (some ⟨g, 0, none⟩) ts.length cap) := fun o => by rw [World.cell?_alloc_past _ _ _ HR.out.lt]; exact HR.out.c0
  have w1 : ∀ o, (w.alloc o).cell? ⟨g, (i + 1) * 4 + 1, none⟩ = some (.string a1.word) := fun o => by rw [World.cell?_alloc_past _ _ _ HR.out.toks.lt]; exact (HR.out.toks.cells (Below.refl _ _) hi1 a1 ha1).2.1
  have hkn := (HO.out.F (i + 1)).kw kNot (by decide)
  have hki := (HO.out.F (i + 1)).kw kIf (by decide)
  rw [← ha1] at hkn hki
  have j3 : (0 : Int) ≤ (i : Int) + 1 := by omega
  have j4 : (i : Int) + 1 < (ts.length : Int) := by omega
  clear ha hc1 hc3 hk40 hnear hk1 hk3 h40 ha1
  by_cases hn : a1.l = kNot
  · have q4 := str_yes (t := a1.word) hn
    simp only [kNot] at q4
    have HIS : Hid (isR ts L i = 116) := hide (by rw [hIS0, if_pos (hkn.1 hn)])
    clear hIS0 hkn hki hn hbl
    go_enter Tryd.func63, Tryd.ntmps63
    go_wp2
    go_ret
    exact ⟨by rw [HIS.out]; rfl, by first | exact (Below.refl _ _).alloc (Nat.le_refl _) _ | exact below_drewN ((Below.refl _ _).alloc (Nat.le_refl _) _) _⟩
  have q4 := str_no (t := a1.word) hn
  simp only [kNot] at q4
  by_cases hf : a1.l = kIf
  · have q5 := str_yes (t := a1.word) hf
    simp only [kIf] at q5
    have HIS : Hid (isR ts L i = 63) := hide (by rw [hIS0, if_neg (fun h => hn (hkn.2 h)), if_pos (hki.1 hf)])
    clear hIS0 hkn hki hn hbl hf
    go_enter Tryd.func63, Tryd.ntmps63
    go_wp2
    go_ret
    exact ⟨by rw [HIS.out]; rfl, by first | exact (Below.refl _ _).alloc (Nat.le_refl _) _ | exact below_drewN ((Below.refl _ _).alloc (Nat.le_refl _) _) _⟩
  have q5 := str_no (t := a1.word) hf
  simp only [kIf] at q5
  rw [if_neg (fun h => hn (hkn.2 h)), if_neg (fun h => hf (hki.2 h))] at hIS0
  have hb2 := hbl (fun h => hn (hkn.2 h)) (fun h => hf (hki.2 h))
  have r1 : ∀ o, (w.alloc o).cell? ⟨gE, i + 1, none⟩ = some (.int .i64 (behindF ts (i + 1) : Nat)) := fun o => by rw [World.cell?_alloc_past _ _ _ hgE]; exact end_later HR.out.ends (Below.refl _ _) hgE hi1
  have c1a : ∀ o, (w.alloc o).cell? ⟨q, 1, none⟩ = some (.slice (some ⟨gE, 0, none⟩) ts.length capE) := fun o => by rw [World.cell?_alloc_past _ _ _ HR.out.lt]; exact HR.out.c1
  generalize behindF ts (i + 1) = b at hb2 r1 hIS0
  obtain ⟨a2, ha2⟩ : ∃ a, a = rtok (tkAt ts b) := ⟨_, rfl⟩
  have w2 : ∀ o, (w.alloc o).cell? ⟨g, b * 4 + 1, none⟩ = some (.string a2.word) := fun o => by rw [World.cell?_alloc_past _ _ _ HR.out.toks.lt]; exact (HR.out.toks.cells (Below.refl _ _) hb2 a2 ha2).2.1
  have j5 : (0 : Int) ≤ (b : Int) := by omega
  have j6 : (b : Int) < (ts.length : Int) := by omega
  have kwb : ∀ l, kwL.contains l = true → (a2.l = l ↔ lAt ts b = l) := fun l hl => by rw [ha2]; exact (HO.out.F b).kw l hl
  clear hkn hki hn hf hbl ha2
  by_cases u0 : a2.l = kFby
  · have q6 := str_yes (t := a2.word) u0
    simp only [kFby] at q6
    have HIS : Hid (isR ts L i = 63) := hide (by rw [hIS0, (kwb kFby (by decide)).1 u0]; rfl)
    clear hIS0 kwb u0 
    go_enter Tryd.func63, Tryd.ntmps63
    go_wp2_with fail
    go_quiet (fail)
    go_wp2
    go_ret
    exact ⟨by rw [HIS.out]; rfl, by first | exact (Below.refl _ _).alloc (Nat.le_refl _) _ | exact below_drewN ((Below.refl _ _).alloc (Nat.le_refl _) _) _⟩
  have q6 := str_no (t := a2.word) u0
  simp only [kFby] at q6
  by_cases u1 : a2.l = [43]
  · have q7 := str_yes (t := a2.word) u1
    have HIS : Hid (isR ts L i = 110) := hide (by rw [hIS0, (kwb [43] (by decide)).1 u1]; rfl)
    clear hIS0 kwb u1 u0
    go_enter Tryd.func63, Tryd.ntmps63
    go_wp2_with fail
    go_quiet (fail)
    go_wp2
    go_ret
    exact ⟨by rw [HIS.out]; rfl, by first | exact (Below.refl _ _).alloc (Nat.le_refl _) _ | exact below_drewN ((Below.refl _ _).alloc (Nat.le_refl _) _) _⟩
  have q7 := str_no (t := a2.word) u1
  by_cases u2 : a2.l = [45]
  · have q8 := str_yes (t := a2.word) u2
    have HIS : Hid (isR ts L i = 110) := hide (by rw [hIS0, (kwb [45] (by decide)).1 u2]; rfl)
    clear hIS0 kwb u2 u0 u1
    go_enter Tryd.func63, Tryd.ntmps63
    go_wp2_with fail
    go_quiet (fail)
    go_wp2
    go_ret
    exact ⟨by rw [HIS.out]; rfl, by first | exact (Below.refl _ _).alloc (Nat.le_refl _) _ | exact below_drewN ((Below.refl _ _).alloc (Nat.le_refl _) _) _⟩
  have q8 := str_no (t := a2.word) u2
  by_cases u3 : a2.l = [42]
  · have q9 := str_yes (t := a2.word) u3
    have HIS : Hid (isR ts L i = 110) := hide (by rw [hIS0, (kwb [42] (by decide)).1 u3]; rfl)
    clear hIS0 kwb u3 u0 u1 u2
    go_enter Tryd.func63, Tryd.ntmps63
    go_wp2_with fail
    go_quiet (fail)
    go_wp2
    go_ret
    exact ⟨by rw [HIS.out]; rfl, by first | exact (Below.refl _ _).alloc (Nat.le_refl _) _ | exact below_drewN ((Below.refl _ _).alloc (Nat.le_refl _) _) _⟩
  have q9 := str_no (t := a2.word) u3
  by_cases u4 : a2.l = [47]
  · have q10 := str_yes (t := a2.word) u4
    have HIS : Hid (isR ts L i = 110) := hide (by rw [hIS0, (kwb [47] (by decide)).1 u4]; rfl)
    clear hIS0 kwb u4 u0 u1 u2 u3
    go_enter Tryd.func63, Tryd.ntmps63
    go_wp2_with fail
    go_quiet (fail)
    go_wp2
    go_ret
    exact ⟨by rw [HIS.out]; rfl, by first | exact (Below.refl _ _).alloc (Nat.le_refl _) _ | exact below_drewN ((Below.refl _ _).alloc (Nat.le_refl _) _) _⟩
  have q10 := str_no (t := a2.word) u4
  have HIS : Hid (isR ts L i = 116) := hide (by
    rw [hIS0]; unfold opR
    rw [if_neg (fun h => u0 ((kwb kFby (by decide)).2 h)), if_neg]
    rintro (h | h | h | h)
    · exact u1 ((kwb [43] (by decide)).2 h)
    · exact u2 ((kwb [45] (by decide)).2 h)
    · exact u3 ((kwb [42] (by decide)).2 h)
    · exact u4 ((kwb [47] (by decide)).2 h))
  clear hIS0 kwb u0 u1 u2 u3 u4
  go_enter Tryd.func63, Tryd.ntmps63
  go_wp2_with fail
  go_quiet (fail)
  go_wp2
  go_ret
  exact ⟨by rw [HIS.out]; rfl, by first | exact (Below.refl _ _).alloc (Nat.le_refl _) _ | exact below_drewN ((Below.refl _ _).alloc (Nat.le_refl _) _) _⟩

end Go.Proofs.YtmndgoapkmhglaaDoor

/- Plain mathematics: a right text laid out is the same text. -/
namespace Go.Proofs.YtmndgoapkmhglaaDoor

/-- the tokens of a right text, one by one. -/
theorem right_tok (s : ByteArray) (hs : s.size ≤ 1500) (h : (textF s).1 = 0) (i : Nat) (hi : i < (tk 0 s.data.toList).length) :
    (tkAt (toks s) i).kind = 1 ∨ (tkAt (toks s) i).kind = 3 ∨ kwL.contains (tkAt (toks s) i).l = true := by
  obtain ⟨p, hp⟩ := text_ok hs h
  obtain ⟨h1, h2, _⟩ := end_at s hs p hp
  by_cases k1 : (tkAt (toks s) i).kind = 1
  · exact .inl k1
  by_cases k3 : (tkAt (toks s) i).kind = 3
  · exact .inr (.inl k3)
  by_cases kw : kwL.contains (tkAt (toks s) i).l = true
  · exact .inr (.inr kw)
  exfalso
  have hlt : i < (toks s).length := by rw [toks_list]; simp; omega
  have hc : CutTs i (toks s) (toks s) := ⟨toks_ok s hs, hlt, hlt, fun _ _ => rfl, k1, k3, by simpa using kw⟩
  have hk0 : (tkAt (toks s) i).kind ≠ 0 := by
    rw [toks_list, tkAt_left hi]
    exact (tk_kind _ _ _ rfl _ (tkAt_mem hi)).1
  have he := declsC hc (.inl hk0) _ (toks s).length _ _ (Nat.zero_le _) (by simp) hp h2 (by rw [h1]; omega)
  have hp' : declsF (toks s) (toks s).length pZero = .ok p := hp
  rw [hp'] at he
  cases he

/-- the two ways to lay out are one. -/
theorem outN_list (A : List Tk) (e : Tk) (he : bareL e = []) (hel : e.l = []) : ∀ m j, A.length - j = m → 1 ≤ j → j ≤ A.length → outN (A ++ [e]) (A.length + 1) = outN (A ++ [e]) j ++ outG (tkAt (A ++ [e]) (j - 1)).l (A.drop j) := by
  intro m
  induction m with
  | zero =>
    intro j hm h1 hj
    have : j = A.length := by omega
    subst this
    rw [outN, pieceL, if_neg (by omega), tkAt_mid, he, hel, List.append_nil, List.drop_length]
    rfl
  | succ m ih =>
    intro j hm h1 hj
    have hlt : j < A.length := by omega
    rw [ih (j + 1) (by omega) (by omega) (by omega), outN, pieceL, if_neg (by omega), List.drop_eq_getElem_cons hlt, outG]
    have e1 : tkAt (A ++ [e]) j = A[j]'hlt := by rw [tkAt_left hlt]; unfold tkAt; rw [List.getD_eq_getElem?_getD, List.getElem?_eq_getElem hlt]; rfl
    rw [show j + 1 - 1 = j by omega, e1]
    simp only [List.append_assoc]

theorem outF_list (s : ByteArray) : (outF s).data.toList = outL (tk 0 s.data.toList) := by
  show outN (toks s) (toks s).length = _
  rw [toks_list]
  have hl : (tk 0 s.data.toList ++ [(⟨0, s.size, ⟨#[]⟩⟩ : Tk)]).length = (tk 0 s.data.toList).length + 1 := by simp
  rw [hl]
  generalize hA : tk 0 s.data.toList = A
  cases A with
  | nil => rfl
  | cons t r =>
    rw [outN_list (t :: r) ⟨0, s.size, ⟨#[]⟩⟩ rfl rfl _ 1 rfl (Nat.le_refl _) (by simp)]
    rfl

theorem out_toks (s : ByteArray) : All2 OutR (toks s) (toks (outF s)) := by
  rw [toks_list (outF s), outF_list, toks_list s]
  exact All2.app (outL_tk _ (fun u hu => tk_fine _ _ _ rfl u hu) 0) ⟨⟨rfl, rfl⟩, trivial⟩

theorem text_of_l {t u : Tk} (h : u.l = t.l) : u.text = t.text := ba_ext h

theorem out_at (s : ByteArray) (i : Nat) : OutR (tkAt (toks s) i) (tkAt (toks (outF s)) i) := All2.getD (R := OutR) ⟨rfl, rfl⟩ i (out_toks s)

theorem out_tsR (s : ByteArray) : TsR (fun _ _ => True) (toks s) (toks (outF s)) := by
  refine ⟨(out_toks s).len, fun i => ?_⟩
  obtain ⟨h1, h2⟩ := out_at s i
  have hd := (toks_dig s).all i
  refine ⟨h1, trivial, fun hk => ?_, fun hk => ?_, fun hk => ?_⟩
  · rw [h2]; unfold bareL; rw [if_pos hk]; exact trim_val _
  · have := (hd hk).2
    refine ⟨this, ?_⟩
    rw [h2]; unfold bareL; rw [if_pos hk]
    intro c hc
    exact this c (trim_mem _ c hc)
  · apply text_of_l
    rw [h2]; unfold bareL; rw [if_neg hk]

theorem out_text (s : ByteArray) (hs : s.size ≤ 1500) (hs' : (outF s).size ≤ 1500) : (textF (outF s)).1 = (textF s).1 :=
  (textR (P := fun _ _ => True) trivial s (outF s) hs hs' (out_tsR s)).1

theorem out_out (s : ByteArray) : outF (outF s) = outF s := by
  have h := out_toks s
  have hp : ∀ j, pieceL (toks (outF s)) j = pieceL (toks s) j := by
    intro j
    have t1 := (out_tsR s).at' j
    have t2 := (out_tsR s).at' (j - 1)
    obtain ⟨a1, a2⟩ := out_at s j
    have hb : bareL (tkAt (toks (outF s)) j) = bareL (tkAt (toks s) j) := by
      have e : ∀ t u : Tk, OutR t u → bareL u = bareL t := by
        intro t u ⟨h1, h2⟩
        unfold bareL at h2 ⊢
        rw [h1, h2]
        by_cases hk : t.kind = 3
        · simp only [hk, if_true]; exact trim_trim _
        · simp only [hk, if_false]
      exact e _ _ ⟨a1, a2⟩
    unfold pieceL gapL
    rw [hb]
    simp only [t2.same (l := [59]) (by decide), t2.same (l := [40]) (by decide), t1.same (l := [41]) (by decide), t1.same (l := [59]) (by decide)]
  have ho : ∀ n, outN (toks (outF s)) n = outN (toks s) n := by
    intro n
    induction n with
    | zero => rfl
    | succ n ih => unfold outN; rw [ih, hp]
  have e : outF (outF s) = ⟨(outN (toks (outF s)) (toks (outF s)).length).toArray⟩ := rfl
  rw [e, h.len, ho]
  rfl

/- without blanks and noughts in front -/
def digU (c : UInt8) : Bool := decide (48 ≤ c.toNat) && decide (c.toNat ≤ 57)
def blankU (c : UInt8) : Bool := decide (c.toNat = 32) || decide (c.toNat = 10)
def moreU : List UInt8 → Bool
  | [] => false
  | c :: _ => digU c
def bareR : Bool → List UInt8 → List UInt8
  | _, [] => []
  | b, c :: r => if blankU c then bareR (b && digU c) r else if decide (c.toNat = 48) && !(b && digU c) && moreU r then bareR (b && digU c) r else c :: bareR (digU c) r

theorem dig_cls (c : UInt8) : digU c = true ↔ cls c.toNat = 2 := by
  constructor
  · intro h
    unfold digU at h
    simp at h
    exact cls_2 h.1 h.2
  · intro h
    have := cls_two h
    unfold digU; simp; exact this
theorem blank_cls (c : UInt8) : blankU c = true ↔ cls c.toNat = 0 := by
  unfold blankU cls
  constructor
  · intro h; simp at h; rw [if_pos h]
  · intro h
    split at h
    · rename_i h1; simp; exact h1
    split at h
    · cases h
    split at h
    · cases h
    split at h <;> cases h
theorem dig_no {c : UInt8} (h : cls c.toNat ≠ 2) : digU c = false := by
  cases hd : digU c
  · rfl
  · exact absurd ((dig_cls c).1 hd) h
theorem blank_no {c : UInt8} (h : cls c.toNat ≠ 0) : blankU c = false := by
  cases hd : blankU c
  · rfl
  · exact absurd ((blank_cls c).1 hd) h
theorem nought_no {c : UInt8} (h : cls c.toNat ≠ 2) : decide (c.toNat = 48) = false := by
  simp only [decide_eq_false_iff_not]
  intro e; rw [e] at h; exact h (by decide)

theorem bareR_reset {b : Bool} {rest : List UInt8} (h : Stops 2 rest) : bareR b rest = bareR false rest := by
  cases rest with
  | nil => rfl
  | cons c r =>
    have hd : digU c = false := dig_no (fun e => by have := h c rfl; unfold W at this; rw [e] at this; cases this)
    unfold bareR
    rw [hd, Bool.and_false, Bool.and_false]
theorem bareR_other {b : Bool} {c : UInt8} {r : List UInt8} (h0 : cls c.toNat ≠ 0) (h2 : cls c.toNat ≠ 2) : bareR b (c :: r) = c :: bareR false r := by
  rw [bareR, blank_no h0, nought_no h2, dig_no h2]
  rfl
theorem bareR_word {cl : Nat} (h0 : cl ≠ 0) (h2 : cl ≠ 2) : ∀ (w rest : List UInt8) (b : Bool), w ≠ [] → (∀ c ∈ w, W cl c = true) → bareR b (w ++ rest) = w ++ bareR false rest := by
  intro w
  induction w with
  | nil => intro rest b h _; exact absurd rfl h
  | cons c w ih =>
    intro rest b _ hw
    have hc := W_cls (hw c (List.mem_cons_self ..))
    rw [List.cons_append, bareR_other (by rw [hc]; exact h0) (by rw [hc]; exact h2)]
    cases w with
    | nil => rfl
    | cons d w => rw [ih rest false (by simp) (fun x hx => hw x (List.mem_cons_of_mem _ hx))]; rfl
theorem bareR_keep : ∀ (w rest : List UInt8), (∀ c ∈ w, W 2 c = true) → bareR true (w ++ rest) = w ++ bareR true rest := by
  intro w
  induction w with
  | nil => intro rest _; rfl
  | cons c w ih =>
    intro rest hw
    have hc := W_cls (hw c (List.mem_cons_self ..))
    have hd : digU c = true := (dig_cls c).2 hc
    rw [List.cons_append, bareR, blank_no (by rw [hc]; decide), hd]
    simp only [Bool.and_self, Bool.not_true, Bool.and_false, Bool.false_eq_true, if_false]
    rw [ih rest (fun x hx => hw x (List.mem_cons_of_mem _ hx))]
    rfl
theorem bareR_num : ∀ (w rest : List UInt8), w ≠ [] → (∀ c ∈ w, W 2 c = true) → Stops 2 rest → bareR false (w ++ rest) = trimL w ++ bareR false rest := by
  intro w
  induction w with
  | nil => intro rest h; exact absurd rfl h
  | cons c w ih =>
    intro rest _ hw hr
    have hc := W_cls (hw c (List.mem_cons_self ..))
    have hd : digU c = true := (dig_cls c).2 hc
    have hw' : ∀ x ∈ w, W 2 x = true := fun x hx => hw x (List.mem_cons_of_mem _ hx)
    rw [List.cons_append, bareR, blank_no (by rw [hc]; decide), hd]
    simp only [Bool.not_false, Bool.and_true, Bool.false_eq_true, if_false]
    cases w with
    | nil =>
      have hm : moreU rest = false := by
        cases rest with
        | nil => rfl
        | cons d r => exact dig_no (fun e => by have := hr d rfl; unfold W at this; rw [e] at this; cases this)
      rw [List.nil_append, hm, Bool.and_false]
      simp only [Bool.false_eq_true, if_false]
      rw [bareR_reset hr]
      rfl
    | cons d w =>
      have hm : moreU (d :: w ++ rest) = true := (dig_cls d).2 (W_cls (hw' d (List.mem_cons_self ..)))
      rw [hm, Bool.and_true]
      by_cases h48 : c.toNat = 48
      · have hc48 : c = 48 := UInt8.toNat_inj.1 (by rw [h48]; rfl)
        rw [if_pos (by simpa using h48), ih rest (by simp) hw' hr]
        conv => rhs; rw [trimL, if_pos hc48]
      · have hc48 : c ≠ 48 := fun e => h48 (by rw [e]; rfl)
        rw [if_neg (by simpa using h48), bareR_keep _ _ hw', bareR_reset hr]
        conv => rhs; rw [trimL, if_neg hc48]
        rfl

theorem dw_head (p : UInt8 → Bool) : ∀ (r : List UInt8) (d : UInt8), (r.dropWhile p).head? = some d → p d = false := by
  intro r
  induction r with
  | nil => intro d h; simp at h
  | cons c r ih =>
    intro d h
    rw [List.dropWhile_cons] at h
    split at h
    · exact ih d h
    · rename_i hc
      simp at h
      subst h
      simpa using hc

def bareC (t : Tk) : List UInt8 := if moreU t.l then trimL t.l else t.l

theorem bareR_tk : ∀ n k (l : List UInt8), l.length = n → bareR false l = (tk k l).flatMap bareC := by
  intro n
  induction n using Nat.strongRecOn with
  | _ n ih =>
    intro k l hn
    cases l with
    | nil => rfl
    | cons c r =>
      simp only [List.length_cons] at hn
      by_cases h0 : cls c.toNat = 0
      · rw [tk_blank h0, bareR, (blank_cls c).2 h0, Bool.false_and]
        simp only [if_true]
        exact ih r.length (by omega) (k + 1) r rfl
      · have hl := take_drop_len (W (cls c.toNat)) r
        by_cases h12 : cls c.toNat = 1 ∨ cls c.toNat = 2
        · have hsp : c :: r = (c :: r.takeWhile (W (cls c.toNat))) ++ r.dropWhile (W (cls c.toNat)) := by rw [List.cons_append, List.takeWhile_append_dropWhile]
          have hall : ∀ d ∈ c :: r.takeWhile (W (cls c.toNat)), W (cls c.toNat) d = true := by
            intro d hd
            rcases List.mem_cons.1 hd with rfl | hd
            · exact W_self d
            · exact tw_all _ r d hd
          have hst : Stops (cls c.toNat) (r.dropWhile (W (cls c.toNat))) := by
            intro d hd
            exact dw_head _ r d hd
          rw [tk_word h12, List.flatMap_cons]
          have hrest := ih (r.dropWhile (W (cls c.toNat))).length (by omega) (k + 1 + (r.takeWhile (W (cls c.toNat))).length) _ rfl
          rw [← hrest]
          have htl : (tokW k (c :: r.takeWhile (W (cls c.toNat))) (cls c.toNat)).l = c :: r.takeWhile (W (cls c.toNat)) := by simp [tokW, Tk.l]
          unfold bareC
          rw [htl]
          rcases h12 with h1 | h2
          · have hm : moreU (c :: r.takeWhile (W (cls c.toNat))) = false := dig_no (by rw [h1]; decide)
            rw [hm]
            simp only [Bool.false_eq_true, if_false]
            conv => lhs; rw [hsp]
            exact bareR_word (cl := cls c.toNat) (by omega) (by omega) _ _ _ (by simp) hall
          · have hm : moreU (c :: r.takeWhile (W (cls c.toNat))) = true := (dig_cls c).2 h2
            rw [hm]
            simp only [if_true]
            conv => lhs; rw [hsp]
            rw [h2] at hall hst ⊢
            exact bareR_num _ _ (by simp) hall hst
        · rw [tk_one (by omega), bareR_other h0 (by omega), List.flatMap_cons]
          rw [ih r.length (by omega) (k + 1) r rfl]
          have htl : (tokW k [c] (cls c.toNat)).l = [c] := by simp [tokW, Tk.l]
          unfold bareC
          rw [htl, show moreU [c] = false from dig_no (by omega)]
          rfl
theorem all2_flat {R : Tk → Tk → Prop} {f g : Tk → List UInt8} (h : ∀ t u, R t u → g u = f t) : ∀ {l m : List Tk}, All2 R l m → m.flatMap g = l.flatMap f := by
  intro l
  induction l with
  | nil => intro m hm; cases m with
    | nil => rfl
    | cons b m => exact hm.elim
  | cons a l ih => intro m hm; cases m with
    | nil => exact hm.elim
    | cons b m => rw [List.flatMap_cons, List.flatMap_cons, h a b hm.1, ih hm.2]

theorem out_bare (s : ByteArray) (hs : s.size ≤ 1500) (h : (textF s).1 = 0) : bareR false (outF s).data.toList = bareR false s.data.toList := by
  rw [bareR_tk _ 0 _ rfl, bareR_tk _ 0 _ rfl, outF_list]
  have hA := outL_tk (tk 0 s.data.toList) (fun u hu => tk_fine _ _ _ rfl u hu) 0
  have hright : ∀ t ∈ tk 0 s.data.toList, (t.kind = 3 → ∀ c ∈ t.l, W 2 c = true) ∧ (t.kind = 3 → t.l ≠ []) ∧ (t.kind ≠ 3 → moreU t.l = false) := by
    intro t ht
    have hf := tk_fine _ _ _ rfl t ht
    obtain ⟨i, hi, rfl⟩ := List.getElem_of_mem ht
    have hr := right_tok s hs h i hi
    have e1 : tkAt (toks s) i = (tk 0 s.data.toList)[i]'hi := by
      rw [toks_list, tkAt_left hi]; unfold tkAt; rw [List.getD_eq_getElem?_getD, List.getElem?_eq_getElem hi]; rfl
    rw [e1] at hr
    generalize (tk 0 s.data.toList)[i]'hi = t at hf hr
    rcases hf with ⟨cl, hcl, hne, hal, hk⟩ | ⟨c, hl, hc, hk⟩
    · refine ⟨fun h3 => ?_, fun _ => hne, fun h3 => ?_⟩
      · obtain ⟨rfl, _⟩ := kind3_cls (hk ▸ h3)
        exact hal
      · rcases hcl with rfl | rfl
        · cases hl : t.l with
          | nil => rfl
          | cons c r => exact dig_no (by rw [W_cls (hal c (by rw [hl]; simp))]; decide)
        · exfalso
          rcases hr with hr | hr | hr
          · rw [hk] at hr; unfold kindK numK at hr; rw [if_neg (by decide), if_pos rfl] at hr; split at hr <;> cases hr
          · exact h3 hr
          · have hw : ∀ l : List UInt8, kwL.contains l = true → ∃ c ∈ l, W 2 c = false := by
              intro l hl
              have hm : l ∈ kwL := by simpa using hl
              have : ∀ m ∈ kwL, m.any (fun c => !W 2 c) = true := by decide
              have := this l hm
              rw [List.any_eq_true] at this
              obtain ⟨c, hc, hd⟩ := this
              exact ⟨c, hc, by simpa using hd⟩
            obtain ⟨c, hc, hd⟩ := hw _ hr
            rw [hal c hc] at hd
            cases hd
    · refine ⟨fun h3 => ?_, fun _ => by rw [hl]; simp, fun _ => by rw [hl]; exact dig_no (by omega)⟩
      have := (kind3_cls (hk ▸ h3)).1
      omega
  have hB : All2 (fun t u => OutR t u ∧ (t.kind = 3 → ∀ c ∈ t.l, W 2 c = true) ∧ (t.kind = 3 → t.l ≠ []) ∧ (t.kind ≠ 3 → moreU t.l = false)) (tk 0 s.data.toList) (tk 0 (outL (tk 0 s.data.toList))) := by
    have : ∀ (l m : List Tk), All2 OutR l m → (∀ t ∈ l, (t.kind = 3 → ∀ c ∈ t.l, W 2 c = true) ∧ (t.kind = 3 → t.l ≠ []) ∧ (t.kind ≠ 3 → moreU t.l = false)) → All2 (fun t u => OutR t u ∧ (t.kind = 3 → ∀ c ∈ t.l, W 2 c = true) ∧ (t.kind = 3 → t.l ≠ []) ∧ (t.kind ≠ 3 → moreU t.l = false)) l m := by
      intro l
      induction l with
      | nil => intro m hm _; cases m with
        | nil => exact trivial
        | cons b m => exact hm.elim
      | cons a l ih => intro m hm hr; cases m with
        | nil => exact hm.elim
        | cons b m => exact ⟨⟨hm.1, hr a (List.mem_cons_self ..)⟩, ih m hm.2 (fun t ht => hr t (List.mem_cons_of_mem _ ht))⟩
    exact this _ _ hA hright
  refine all2_flat ?_ hB
  intro t u ⟨⟨h1, h2⟩, h3, h3', h4⟩
  unfold bareC
  by_cases hk : t.kind = 3
  · have e : u.l = trimL t.l := by rw [h2]; unfold bareL; rw [if_pos hk]
    have m1 : ∀ l : List UInt8, l ≠ [] → (∀ c ∈ l, W 2 c = true) → moreU l = true := by
      intro l hl ha
      cases l with
      | nil => exact absurd rfl hl
      | cons c r => exact (dig_cls c).2 (W_cls (ha c (List.mem_cons_self ..)))
    rw [e, m1 _ (trim_ne (h3' hk)) (fun c hc => h3 hk c (trim_mem _ c hc)), m1 _ (h3' hk) (h3 hk)]
    simp only [if_true]
    exact trim_trim _
  · have e : u.l = t.l := by rw [h2]; unfold bareL; rw [if_neg hk]
    rw [e]

end Go.Proofs.YtmndgoapkmhglaaDoor
