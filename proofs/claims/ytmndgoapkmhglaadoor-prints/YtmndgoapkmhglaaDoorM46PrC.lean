import Derived.Test.YtmndgoapkmhglaaDoorM21PrA
import Derived.Test.YtmndgoapkmhglaaDoorM43RefY
import Derived.Test.YtmndgoapkmhglaaDoorM45LayD
namespace Go.Proofs.YtmndgoapkmhglaaDoor
open Go.RowKit
attribute [local go_sem ↓] Go.wp_at_zero Go.wp_at_succ

/-- what is written of one token of a right text. -/
theorem written_bare (s : ByteArray) (hs : s.size ≤ 1500) (h : (textF s).1 = 0) (i : Nat) (hi : i + 1 < (toks s).length) :
    (if (rtok (tkAt (toks s) i)).c = 110 then (⟨(Lib.decDigits (rtok (tkAt (toks s) i)).n).toArray⟩ : ByteArray) else (rtok (tkAt (toks s) i)).word).data.toList = bareL (tkAt (toks s) i) ∧ (rtok (tkAt (toks s) i)).n < 1000000000000000000 := by
  have hi' : i < (tk 0 s.data.toList).length := by rw [toks_list] at hi; simp at hi; omega
  have hr := right_tok s hs h i hi'
  have hf : Fine (tkAt (toks s) i) := by rw [toks_list, tkAt_left hi']; exact tk_fine _ _ _ rfl _ (tkAt_mem hi')
  have hF := toks_F s i
  have hc := c110 (tkAt (toks s) i)
  generalize tkAt (toks s) i = t at hr hf hF hc
  by_cases h3 : t.kind = 3
  · have hcc : (rtok t).c = 110 := by rw [h3] at hc; simpa using hc
    have hdig : t.l ≠ [] ∧ (∀ c ∈ t.l, 48 ≤ c.toNat ∧ c.toNat ≤ 57) ∧ t.l.length ≤ 18 := by
      rcases hf with ⟨cl, hcl, hne, hall, hk⟩ | ⟨c, _, h4, hk⟩
      · obtain ⟨e1, e2⟩ := kind3_cls (hk.symm.trans h3)
        refine ⟨hne, fun c hc => cls_two ?_, e2⟩
        have := W_cls (hall c hc)
        omega
      · have := (kind3_cls (hk.symm.trans h3)).1
        omega
    rw [if_pos hcc, rn3 h3]
    refine ⟨?_, ?_⟩
    · unfold bareL
      rw [if_pos h3, dec_trim t.l hdig.1 hdig.2.1]
    · have h1 := valN_lt t.l hdig.2.1 t.l.length (Nat.le_refl _)
      rw [valN_all] at h1
      have h2 : 10 ^ t.l.length ≤ 10 ^ 18 := Nat.pow_le_pow_right (by omega) hdig.2.2
      have h4 : (10 : Nat) ^ 18 = 1000000000000000000 := by decide
      omega
  · have hcc : (rtok t).c ≠ 110 := fun e => h3 (by rw [e] at hc; simpa using hc.symm)
    rw [if_neg hcc]
    refine ⟨?_, ?_⟩
    · unfold bareL
      rw [if_neg h3]
      show (rtok t).l = t.l
      rcases hr with h1 | h1 | h1
      · rw [rtok_l, if_pos (.inl h1)]
      · exact absurd h1 h3
      · exact (hF.kw t.l h1).2 rfl
    · show (if t.kind = 3 then _ else 0) < _
      rw [if_neg h3]; decide

theorem refN_len (s : ByteArray) (hs : s.size ≤ 1500) (k : Nat) (hk : k ≤ 1501) : (refN (toks s) k).length ≤ 2300000 := by
  unfold refN
  rw [List.length_append]
  have h1 := out_len s hs k
  have h2 : k * 1501 ≤ 1501 * 1501 := Nat.mul_le_mul_right _ hk
  have h3 : (if 0 < k ∧ (tkAt (toks s) (k - 1)).l = [59] then [(10 : UInt8)] else []).length ≤ 1 := by split <;> simp
  omega

set_option maxHeartbeats 8000000 in
set_option maxRecDepth 100000 in
theorem rprint_any (s : ByteArray) (w : World) (ht : Tab w) :
    Calls Tryd.prog 5 #[.string s] w fun e w' => e = .returned (.tuple #[.string (printF s), .int .i64 ((textF s).1 : Int)]) ∧ Below w.heap.size w w' := by
  have HC := hide (rread_any s w)
  have HT := hide ht
  clear ht
  by_cases he : (textF s).1 = 0
  · have hs := text_short he
    have hlen := (toks_ok s hs).1
    have hpos := (toks_ok s hs).pos
    have HWB := hide (written_bare s hs he)
    have HEND := hide (refN_end s hs he)
    have HPF : Hid (printF s = outF s) := hide (by unfold printF; rw [if_pos he])
    have HRL := hide (refN_len s hs)
    have HRS := hide (refN_succ (toks s))
    have HFF := hide (toks_F s)
    have HE := hide he
    go_enter Tryd.func5, Tryd.ntmps5
    go_wp2_with fail
    refine HC.out.mono ?_
    rintro e w1 ⟨p, rfl, hb1, hro⟩
    obtain ⟨q, g, cap, L, vE, vA, vI, vQ, rfl, hrp, hok⟩ := hro he
    rw [he]
    have c0 := hrp.c0
    have HRP := hide hrp
    have HT1 := hide (HT.out.below hb1)
    clear HC hro hrp hok HT he
    generalize hts : toks s = ts at hlen hpos HWB HEND HRL HRS HFF HRP c0 ⊢
    go_wp2
    go_loopw [7, 8, 9] (fun v f i wr => ∃ (k : Nat) (S : ByteArray), k + 1 ≤ ts.length ∧ i = .int .i64 k ∧ v = .string S ∧ f = .bool (freshN ts k) ∧ S.data.toList = refN ts k ∧ Below w1.heap.size w1 wr) (fun _ _ i _ => ts.length - (intOf i).toNat)
    case atStart => exact ⟨0, ⟨#[]⟩, by omega, rfl, rfl, rfl, by simp [refN, outN], Below.refl _ _⟩
    case round =>
      clear c0
      obtain ⟨k, S, hk, rfl, rfl, rfl, hS, hbx⟩ := hrel
      have c0 := (HRP.out.below hbx).c0
      have HS := hide hS
      have hsz : S.size ≤ 2300000 := by rw [← size_len, hS]; exact HRL.out k (by omega)
      clear hS
      by_cases hlt : k + 1 < ts.length
      · obtain ⟨a, ha⟩ : ∃ a, a = rtok (tkAt ts k) := ⟨_, rfl⟩
        obtain ⟨x0, x1, x2, x3⟩ := HRP.out.toks.cells hbx (show k < ts.length by omega) a ha
        obtain ⟨hwb, hn⟩ := HWB.out k hlt
        rw [← ha] at hwb hn
        have hk59 := (HFF.out k).kw [59] (by decide)
        have hk41 := (HFF.out k).kw [41] (by decide)
        rw [← ha] at hk59 hk41
        obtain ⟨wd, hwd⟩ : ∃ wd : ByteArray, wd = (if a.c = 110 then (⟨(Lib.decDigits a.n).toArray⟩ : ByteArray) else a.word) := ⟨_, rfl⟩
        rw [← hwd] at hwb
        have HCALL : Hid (∀ W, Below w1.heap.size w1 W → Calls Tryd.prog 11 #[.agg #[.int .u8 (a.c : Int), .string a.word, .int .i64 (a.pos : Int), .int .i64 (a.n : Int)]] W fun e w' => e = .returned (.string wd) ∧ Below W.heap.size W w') := hide (fun W hW => rwritten_any a W (HT1.out.below hW) hn wd hwd)
        have hwl : wd.size ≤ 2300000 := by
          have h1 := HRL.out (k + 1) (by omega)
          have h2 := HRS.out k
          rw [h2] at h1
          simp only [List.length_append] at h1
          rw [← size_len, hwb]
          omega
        have HW := hide hwb
        have HSTEP := hide (tok_step a wr)
        have j1 : (0 : Int) ≤ (k : Int) := by omega
        have j2 : (k : Int) < (ts.length : Int) := by omega
        have j3 : (k : Int) + 1 < (ts.length : Int) := by omega
        have HR2 := hide (HRS.out k)
        have HKW := hide (And.intro hk59 hk41)
        have HFS : Hid (freshN ts (k + 1) = (lAt ts k == [59])) := hide (by unfold freshN; simp)
        have hbxa : ∀ o, Below w1.heap.size w1 (wr.alloc o) := fun o => hbx.alloc hbx.size o
        clear hwb hwd hk59 hk41
        generalize hfr : freshN ts k = fr at *
        cases fr
        · obtain ⟨p1, hp1⟩ : ∃ p1, k = p1 + 1 := ⟨k - 1, by
            have : k ≠ 0 := fun e => by rw [e] at hfr; simp [freshN] at hfr
            omega⟩
          obtain ⟨b, hb⟩ : ∃ b, b = rtok (tkAt ts p1) := ⟨_, rfl⟩
          obtain ⟨z0, z1, z2, z3⟩ := HRP.out.toks.cells hbx (show p1 < ts.length by omega) b hb
          have hk40 := (HFF.out p1).kw [40] (by decide)
          rw [← hb] at hk40
          have hgl : glueR b a = decide ((tkAt ts (k - 1)).l = [40] ∨ (tkAt ts k).l = [41] ∨ (tkAt ts k).l = [59]) := by
            have e1 : (b.l == [40]) = ((tkAt ts p1).l == [40]) := by rw [Bool.eq_iff_iff, beq_iff_eq, beq_iff_eq]; exact hk40
            have e2 : (a.l == [41]) = ((tkAt ts k).l == [41]) := by rw [Bool.eq_iff_iff, beq_iff_eq, beq_iff_eq]; exact HKW.out.2
            have e3 : (a.l == [59]) = ((tkAt ts k).l == [59]) := by rw [Bool.eq_iff_iff, beq_iff_eq, beq_iff_eq]; exact HKW.out.1
            unfold glueR
            rw [e1, e2, e3, show k - 1 = p1 by omega, Bool.eq_iff_iff]
            simp [or_assoc]
          have HG : Hid (glueR b a = true → (if (tkAt ts (k - 1)).l = [40] ∨ (tkAt ts k).l = [41] ∨ (tkAt ts k).l = [59] then ([] : List UInt8) else [32]) = []) := hide (fun h => by rw [hgl] at h; rw [if_pos (by simpa using h)])
          have HG2 : Hid (glueR b a = false → (if (tkAt ts (k - 1)).l = [40] ∨ (tkAt ts k).l = [41] ∨ (tkAt ts k).l = [59] then ([] : List UInt8) else [32]) = [32]) := hide (fun h => by rw [hgl] at h; rw [if_neg (by simpa using h)])
          have HGC : Hid (∀ W, Calls Tryd.prog 10 #[.agg #[.int .u8 (b.c : Int), .string b.word, .int .i64 (b.pos : Int), .int .i64 (b.n : Int)], .agg #[.int .u8 (a.c : Int), .string a.word, .int .i64 (a.pos : Int), .int .i64 (a.n : Int)]] W fun e w' => e = .returned (.bool (glueR b a)) ∧ Below W.heap.size W w') := hide (fun W => rglued_any b a W)
          generalize glueR b a = gl at HG HG2 HGC
          have d1 : (0 : Int) ≤ (p1 : Int) := by omega
          have d2 : (p1 : Int) < (ts.length : Int) := by omega
          have c0a : ∀ o, (wr.alloc o).cell? ⟨q, 0, none⟩ = some (.slice (some ⟨g, 0, none⟩) ts.length cap) := fun o => by rw [World.cell?_alloc_past _ _ _ (HRP.out.below hbx).lt]; exact c0
          have hgw : g < wr.heap.size := by have := HRP.out.toks.lt; have := hbx.size; omega
          have za : ∀ o, (wr.alloc o).cell? ⟨g, p1 * 4, none⟩ = some (.int .u8 (b.c : Int)) ∧ (wr.alloc o).cell? ⟨g, p1 * 4 + 1, none⟩ = some (.string b.word) ∧ (wr.alloc o).cell? ⟨g, p1 * 4 + 2, none⟩ = some (.int .i64 (b.pos : Int)) ∧ (wr.alloc o).cell? ⟨g, p1 * 4 + 3, none⟩ = some (.int .i64 (b.n : Int)) := fun o => by
            rw [World.cell?_alloc_past _ _ _ hgw, World.cell?_alloc_past _ _ _ hgw, World.cell?_alloc_past _ _ _ hgw, World.cell?_alloc_past _ _ _ hgw]
            exact ⟨z0, z1, z2, z3⟩
          have za0 := fun o => (za o).1
          have za1 := fun o => (za o).2.1
          have za2 := fun o => (za o).2.2.1
          have za3 := fun o => (za o).2.2.2
          have HK1 := hide hp1
          have em1 : IntKind.i64.wrap ((k : Int) - 1) = (p1 : Int) := by rw [wrapI _ (by omega) (by omega)]; omega
          clear hgl hk40 hb za hp1 hfr ha
          have hqw : q < wr.heap.size := (HRP.out.below hbx).lt
          go_wp2_with fail
          go_region_held3 (fun w' => w'.cell? ⟨q, 0, none⟩ = some (.slice (some ⟨g, 0, none⟩) ts.length cap) ∧ w'.cell? ⟨g, p1 * 4, none⟩ = some (.int .u8 (b.c : Int)) ∧ w'.cell? ⟨g, p1 * 4 + 1, none⟩ = some (.string b.word) ∧ w'.cell? ⟨g, p1 * 4 + 2, none⟩ = some (.int .i64 (b.pos : Int)) ∧ w'.cell? ⟨g, p1 * 4 + 3, none⟩ = some (.int .i64 (b.n : Int)) ∧ w'.cell? ⟨wr.heap.size, 0, none⟩ = some (.int .u8 (a.c : Int)) ∧ w'.cell? ⟨wr.heap.size, 1, none⟩ = some (.string a.word) ∧ w'.cell? ⟨wr.heap.size, 2, none⟩ = some (.int .i64 (a.pos : Int)) ∧ w'.cell? ⟨wr.heap.size, 3, none⟩ = some (.int .i64 (a.n : Int))) (go_keep)
            ((go_at_call 10; refine (HGC.out _).mono ?_; rintro e5 w5 ⟨rfl, hb5⟩; have t0 := (hb5.cell (p := ⟨q, 0, none⟩) (by simp; omega)).trans (c0a _); have t1 := (hb5.cell (p := ⟨g, p1 * 4, none⟩) (by simp; omega)).trans (za0 _); have t2 := (hb5.cell (p := ⟨g, p1 * 4 + 1, none⟩) (by simp; omega)).trans (za1 _); have t3 := (hb5.cell (p := ⟨g, p1 * 4 + 2, none⟩) (by simp; omega)).trans (za2 _); have t4 := (hb5.cell (p := ⟨g, p1 * 4 + 3, none⟩) (by simp; omega)).trans (za3 _); obtain ⟨v0, v1, v2, v3, hb5'⟩ := HSTEP.out w5 ((Below.refl _ _).drew.trans hb5)))
          rename_i hHeld
          clear hHeld
          have HB5 := (Below.refl _ _).drew.trans hb5
          have hbx5 : Below w1.heap.size w1 w5 := hbx.trans (hb5'.mono hbx.size)
          clear hb5 hb5' HGC t0 t1 t2 t3 t4 c0a za0 za1 za2 za3 z0 z1 z2 z3
          cases gl
          · have HGAP : Hid ((if (false : Bool) = true then ([] : List UInt8) else if (tkAt ts (k - 1)).l = [40] ∨ (tkAt ts k).l = [41] ∨ (tkAt ts k).l = [59] then [] else [32]) = [32]) := hide (HG2.out rfl)
            clear HG HG2
            go_wp2_with fail
            refine (HCALL.out _ hbx5).mono ?_
            rintro e9 w9 ⟨rfl, hb9⟩
            have HB9 := HB5.trans (hb9.mono HB5.size)
            obtain ⟨d0, d1, _, _, hb9'⟩ := HSTEP.out w9 HB9
            have hbx9 : Below w1.heap.size w1 w9 := hbx.trans (hb9'.mono hbx.size)
            clear hb9 hb9' HB9 HB5 hbx5 HCALL HSTEP
            by_cases h59 : a.l = [59]
            · have s1 := str_yes (t := a.word) h59
              have hl59 : lAt ts k = [59] := HKW.out.1.1 h59
              have HFS2 : Hid (freshN ts (k + 1) = true) := hide (by rw [HFS.out, hl59]; rfl)
              have HR3 : Hid (refN ts (k + 1) = S.data.toList ++ [32] ++ wd.data.toList ++ [10]) := hide (by rw [HR2.out, HW.out, HS.out, HGAP.out, if_pos hl59])
              clear h59 hl59 HFS HR2 HW HGAP HKW
              go_wp2
              go_roundw
              case rel => exact ⟨k + 1, _, by omega, by go_num, rfl, by rw [HFS2.out], by rw [HR3.out]; simp, hbx9⟩
              case measure => simp [intOf]; omega
            · have s1 := str_no (t := a.word) h59
              have hl59 : lAt ts k ≠ [59] := fun e => h59 (HKW.out.1.2 e)
              have HFS2 : Hid (freshN ts (k + 1) = false) := hide (by rw [HFS.out]; exact beq_eq_false_iff_ne.2 hl59)
              have HR3 : Hid (refN ts (k + 1) = S.data.toList ++ [32] ++ wd.data.toList) := hide (by rw [HR2.out, HW.out, HS.out, HGAP.out, if_neg hl59, List.append_nil])
              clear h59 hl59 HFS HR2 HW HGAP HKW
              go_wp2
              go_roundw
              case rel => exact ⟨k + 1, _, by omega, by go_num, rfl, by rw [HFS2.out], by rw [HR3.out]; simp, hbx9⟩
              case measure => simp [intOf]; omega
          · have HGAP : Hid ((if (false : Bool) = true then ([] : List UInt8) else if (tkAt ts (k - 1)).l = [40] ∨ (tkAt ts k).l = [41] ∨ (tkAt ts k).l = [59] then [] else [32]) = []) := hide (HG.out rfl)
            clear HG HG2
            go_wp2_with fail
            refine (HCALL.out _ hbx5).mono ?_
            rintro e9 w9 ⟨rfl, hb9⟩
            have HB9 := HB5.trans (hb9.mono HB5.size)
            obtain ⟨d0, d1, _, _, hb9'⟩ := HSTEP.out w9 HB9
            have hbx9 : Below w1.heap.size w1 w9 := hbx.trans (hb9'.mono hbx.size)
            clear hb9 hb9' HB9 HB5 hbx5 HCALL HSTEP
            by_cases h59 : a.l = [59]
            · have s1 := str_yes (t := a.word) h59
              have hl59 : lAt ts k = [59] := HKW.out.1.1 h59
              have HFS2 : Hid (freshN ts (k + 1) = true) := hide (by rw [HFS.out, hl59]; rfl)
              have HR3 : Hid (refN ts (k + 1) = S.data.toList ++ [] ++ wd.data.toList ++ [10]) := hide (by rw [HR2.out, HW.out, HS.out, HGAP.out, if_pos hl59])
              clear h59 hl59 HFS HR2 HW HGAP HKW
              go_wp2
              go_roundw
              case rel => exact ⟨k + 1, _, by omega, by go_num, rfl, by rw [HFS2.out], by rw [HR3.out]; simp, hbx9⟩
              case measure => simp [intOf]; omega
            · have s1 := str_no (t := a.word) h59
              have hl59 : lAt ts k ≠ [59] := fun e => h59 (HKW.out.1.2 e)
              have HFS2 : Hid (freshN ts (k + 1) = false) := hide (by rw [HFS.out]; exact beq_eq_false_iff_ne.2 hl59)
              have HR3 : Hid (refN ts (k + 1) = S.data.toList ++ [] ++ wd.data.toList) := hide (by rw [HR2.out, HW.out, HS.out, HGAP.out, if_neg hl59, List.append_nil])
              clear h59 hl59 HFS HR2 HW HGAP HKW
              go_wp2
              go_roundw
              case rel => exact ⟨k + 1, _, by omega, by go_num, rfl, by rw [HFS2.out], by rw [HR3.out]; simp, hbx9⟩
              case measure => simp [intOf]; omega
        · have HGAP : Hid ((if (true : Bool) = true then ([] : List UInt8) else if (tkAt ts (k - 1)).l = [40] ∨ (tkAt ts k).l = [41] ∨ (tkAt ts k).l = [59] then [] else [32]) = []) := hide rfl
          clear hfr ha
          go_wp2_with fail
          refine (HCALL.out _ (hbxa _)).mono ?_
          rintro e9 w9 ⟨rfl, hb9⟩
          have HB9 := hb9
          obtain ⟨d0, d1, _, _, hb9'⟩ := HSTEP.out w9 HB9
          have hbx9 : Below w1.heap.size w1 w9 := hbx.trans (hb9'.mono hbx.size)
          clear hb9 hb9' HCALL HSTEP
          by_cases h59 : a.l = [59]
          · have s1 := str_yes (t := a.word) h59
            have hl59 : lAt ts k = [59] := HKW.out.1.1 h59
            have HFS2 : Hid (freshN ts (k + 1) = true) := hide (by rw [HFS.out, hl59]; rfl)
            have HR3 : Hid (refN ts (k + 1) = S.data.toList ++ [] ++ wd.data.toList ++ [10]) := hide (by rw [HR2.out, HW.out, HS.out, HGAP.out, if_pos hl59])
            clear h59 hl59 HFS HR2 HW HGAP HKW
            go_wp2
            go_roundw
            case rel => exact ⟨k + 1, _, by omega, by go_num, rfl, by rw [HFS2.out], by rw [HR3.out]; simp, hbx9⟩
            case measure => simp [intOf]; omega
          · have s1 := str_no (t := a.word) h59
            have hl59 : lAt ts k ≠ [59] := fun e => h59 (HKW.out.1.2 e)
            have HFS2 : Hid (freshN ts (k + 1) = false) := hide (by rw [HFS.out]; exact beq_eq_false_iff_ne.2 hl59)
            have HR3 : Hid (refN ts (k + 1) = S.data.toList ++ [] ++ wd.data.toList) := hide (by rw [HR2.out, HW.out, HS.out, HGAP.out, if_neg hl59, List.append_nil])
            clear h59 hl59 HFS HR2 HW HGAP HKW
            go_wp2
            go_roundw
            case rel => exact ⟨k + 1, _, by omega, by go_num, rfl, by rw [HFS2.out], by rw [HR3.out]; simp, hbx9⟩
            case measure => simp [intOf]; omega
      · have ek : k = ts.length - 1 := by omega
        have HSE : Hid (S = outF s) := hide (ba_ext (by rw [HS.out, ek]; exact HEND.out))
        have z1 : ¬ (k : Int) + 1 < (ts.length : Int) := by omega
        clear ek
        go_wp2
        go_ret2
        exact ⟨by rw [HPF.out, ← HSE.out, HE.out]; rfl, hb1.trans (hbx.mono hb1.size)⟩
  · have hp : printF s = ⟨#[]⟩ := by unfold printF; rw [if_neg he]
    have HP := hide hp
    have q1 : (((textF s).1 : Int) != 0) = true := by rw [bne_iff_ne]; omega
    generalize (textF s).1 = n1 at HC q1
    generalize (textF s).2 = n2 at HC
    clear hp he
    go_enter Tryd.func5, Tryd.ntmps5
    go_wp2_with fail
    refine HC.out.mono ?_
    rintro e w1 ⟨p, rfl, hb1, _⟩
    go_wp2
    go_ret2
    exact ⟨by rw [HP.out]; rfl, hb1⟩

end Go.Proofs.YtmndgoapkmhglaaDoor

namespace Go.Proofs.YtmndgoapkmhglaaDoor
open Go.RowKit
attribute [local go_sem ↓] Go.wp_at_zero Go.wp_at_succ

theorem num_any (n : Int) (w : World) :
    Calls Tryd.prog 6 #[.int .i64 n] w fun e w' => e = .returned (.int .i64 n) ∧ w = w' := by
  go_enter Tryd.func6, Tryd.ntmps6
  go_wp2
  go_ret
  exact ⟨rfl, rfl⟩

set_option maxHeartbeats 1000000 in
theorem prints_any (s : ByteArray) (w : World) (hs : s.size ≤ maxLen) (ht : Tab w) :
    Calls Tryd.prog 3 #[.string s] w fun e w' => e = .returned (.bool true) ∧ Below w.heap.size w w' := by
  have H1 := hide (print_any s w hs)
  have H2 := hide (fun W hW => rprint_any s W (ht.below hW))
  generalize (textF s).1 = a at H1 H2
  generalize printF s = p at H1 H2
  have q1 : (p.toList == p.toList) = true := by simp
  clear hs ht
  go_enter Tryd.func3, Tryd.ntmps3
  go_wp2_with fail
  refine H1.out.mono ?_
  rintro e w1 ⟨rfl, hb1⟩
  go_wp2_with fail
  refine (H2.out w1 hb1).mono ?_
  rintro e2 w2 ⟨rfl, hb2⟩
  have HB := hide (hb1.trans (hb2.mono hb1.size))
  clear hb1 hb2
  go_wp2_with fail
  refine (num_any _ _).mono ?_
  rintro e3 w3 ⟨rfl, rfl⟩
  go_wp2
  go_ret
  exact ⟨rfl, HB.out⟩

end Go.Proofs.YtmndgoapkmhglaaDoor
