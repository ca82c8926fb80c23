import Derived.WalkSmall
import Derived.Deep.LoopGhost
import Derived.Test.YtmndgoapkmhglabM03RefClass
import Derived.Test.YtmndgoapkmhglabM29RefE
import Derived.Test.YtmndgoapkmhglabM30AstN
namespace Go.Proofs.Ytmndgoapkmhglab
open Go.RowKit
attribute [local go_sem ↓] Go.wp_at_zero Go.wp_at_succ

/-- a text's tokens lie in a row. -/
structure TokAt (w : World) (g cap : Nat) (ts : List Tk) : Prop where
  own : w.ownsRow 0 157 4 (.slice (some ⟨g, 0, none⟩) ts.length cap) ts.length (rkCells (ts.map rtok))
  lt : g < w.heap.size

theorem tkAt_get {ts : List Tk} {k : Nat} (hk : k < ts.length) : tkAt ts k = ts[k]'hk := by
  unfold tkAt; rw [List.getD_eq_getElem?_getD, List.getElem?_eq_getElem hk]; rfl

theorem TokAt.cells {w wr : World} {g cap : Nat} {ts : List Tk} (h : TokAt w g cap ts) (hb : Below w.heap.size w wr) {k : Nat} (hk : k < ts.length) (a : RTk) (ha : a = rtok (tkAt ts k)) :
    wr.cell? ⟨g, k * 4, none⟩ = some (.int .u8 (a.c : Int)) ∧ wr.cell? ⟨g, k * 4 + 1, none⟩ = some (.string a.word) ∧ wr.cell? ⟨g, k * 4 + 2, none⟩ = some (.int .i64 (a.pos : Int)) ∧ wr.cell? ⟨g, k * 4 + 3, none⟩ = some (.int .i64 (a.n : Int)) := by
  have hcr : ∀ j, j < 4 → wr.cell? ⟨g, k * 4 + j, none⟩ = a.cells[j]? := fun j hj => by
    rw [hb.cell (p := ⟨g, k * 4 + j, none⟩) h.lt, h.own.cellAt (k * 4 + j) (by omega)]
    have e := flat_get RTk.cells 4 rk_len (ts.map rtok) k j (by simpa using hk) hj
    rw [List.getElem_map, ← tkAt_get hk, ← ha] at e
    exact e
  exact ⟨hcr 0 (by omega), hcr 1 (by omega), hcr 2 (by omega), hcr 3 (by omega)⟩

theorem TokAt.below {w w' : World} {g cap : Nat} {ts : List Tk} (h : TokAt w g cap ts) (hb : Below w.heap.size w w') : TokAt w' g cap ts := ⟨bel_own h.own hb, Nat.lt_of_lt_of_le h.lt hb.size⟩

set_option maxHeartbeats 1000000 in
theorem behind_any (ts : List Tk) (i : Nat) (w : World) (g cap : Nat) (h : TokAt w g cap ts) (hF : ∀ i, TkF (tkAt ts i)) (hl : ts.length ≤ 1501) (hi : i ≤ ts.length) :
    Calls Try.prog 91 #[.slice (some ⟨g, 0, none⟩) ts.length cap, .int .i64 (i : Int)] w fun e w' => e = .returned (.int .i64 (behindF ts i : Nat)) ∧ w = w' := by
  have HT := hide h
  have HF := hide hF
  clear h hF
  go_enter Try.func91, Try.ntmps91
  go_wp2
  go_loop [5, 6] (fun d k => ∃ (m : Nat) (e : Int), m ≤ ts.length ∧ k = .int .i64 m ∧ d = .int .i64 e ∧ 0 ≤ e ∧ e ≤ (m : Int) ∧ bhF ts (ts.length - m) m e = behindF ts i) (fun _ k => ts.length - (intOf k).toNat)
  case atStart => exact ⟨i, 0, hi, rfl, rfl, by omega, by omega, rfl⟩
  case round =>
    obtain ⟨m, e, hm, rfl, rfl, he0, he1, hrec⟩ := hrel
    by_cases hlt : m < ts.length
    · obtain ⟨a, ha⟩ : ∃ a, a = rtok (tkAt ts m) := ⟨_, rfl⟩
      obtain ⟨x0, x1, x2, x3⟩ := HT.out.cells (Below.refl _ _) hlt a ha
      have hk1 := (HF.out m).kw [40] (by decide)
      have hk2 := (HF.out m).kw [41] (by decide)
      rw [← ha] at hk1 hk2
      have hst : bhF ts (ts.length - m) m e = if dstep ts m e ≤ 0 then m + 1 else bhF ts (ts.length - (m + 1)) (m + 1) (dstep ts m e) := by
        rw [show ts.length - m = (ts.length - (m + 1)) + 1 by omega]; rfl
      rw [hst] at hrec
      have j1 : (0 : Int) ≤ (m : Int) := by omega
      have j2 : (m : Int) < (ts.length : Int) := by omega
      by_cases h1 : a.l = [40]
      · have q1 := str_yes (t := a.word) h1
        have hd : dstep ts m e = e + 1 := by unfold dstep; rw [if_pos (hk1.1 h1)]
        rw [hd, if_neg (by omega)] at hrec
        have HR := hide hrec
        have i1 : ¬ e + 1 ≤ 0 := by omega
        clear hd hst hrec hk1 hk2 h1 ha
        go_wp2
        go_round
        case rel => exact ⟨m + 1, e + 1, by omega, by go_num, by go_num, by omega, by omega, HR.out⟩
        case measure => simp [intOf]; omega
      · have q1 := str_no (t := a.word) h1
        by_cases h2 : a.l = [41]
        · have q2 := str_yes (t := a.word) h2
          have hd : dstep ts m e = e - 1 := by unfold dstep; rw [if_neg (fun h => h1 (hk1.2 h)), if_pos (hk2.1 h2)]
          rw [hd] at hrec
          by_cases h3 : e - 1 ≤ 0
          · rw [if_pos h3] at hrec
            have HR := hide hrec
            clear hd hst hrec hk1 hk2 h1 h2 ha q1
            go_wp2
            go_ret
            exact ⟨by rw [← HR.out]; go_num, rfl⟩
          · rw [if_neg h3] at hrec
            have HR := hide hrec
            clear hd hst hrec hk1 hk2 h1 h2 ha q1
            go_wp2
            go_round
            case rel => exact ⟨m + 1, e - 1, by omega, by go_num, by go_num, by omega, by omega, HR.out⟩
            case measure => simp [intOf]; omega
        · have q2 := str_no (t := a.word) h2
          have hd : dstep ts m e = e := by unfold dstep; rw [if_neg (fun h => h1 (hk1.2 h)), if_neg (fun h => h2 (hk2.2 h))]
          rw [hd] at hrec
          by_cases h3 : e ≤ 0
          · rw [if_pos h3] at hrec
            have HR := hide hrec
            clear hd hst hrec hk1 hk2 h1 h2 ha
            go_wp2
            go_ret
            exact ⟨by rw [← HR.out]; go_num, rfl⟩
          · rw [if_neg h3] at hrec
            have HR := hide hrec
            clear hd hst hrec hk1 hk2 h1 h2 ha
            go_wp2
            go_round
            case rel => exact ⟨m + 1, e, by omega, by go_num, rfl, by omega, by omega, HR.out⟩
            case measure => simp [intOf]; omega
    · have em : ts.length - m = 0 := by omega
      rw [em] at hrec
      have HR := hide hrec
      have i1 : ¬ (m : Int) < (ts.length : Int) := by omega
      clear hrec em
      go_wp2
      go_ret
      exact ⟨by rw [← HR.out]; rfl, rfl⟩

end Go.Proofs.Ytmndgoapkmhglab

namespace Go.Proofs.Ytmndgoapkmhglab
open Go.RowKit
attribute [local go_sem ↓] Go.wp_at_zero Go.wp_at_succ

theorem Ans.len {ts : List Tk} {n : Nat} {T : List UInt8} {d : Int} {i : Nat} {r : Int} (h : Ans ts n T d i r) : T.length ≤ 100 ∧ i < ts.length := by
  cases h <;> exact ⟨by simp only [List.length_cons]; omega, by assumption⟩

theorem Ans.inv {ts : List Tk} {n : Nat} {T : List UInt8} {d : Int} {i : Nat} {r : Int} (h : Ans ts n T d i r) : ∃ (x : UInt8) (X : List UInt8), T = x :: X ∧ X.length ≤ 99 ∧
    ((x = 80 ∧ (tkAt ts i).kind = 0 ∧ r = -1) ∨ (¬ (x = 80 ∧ (tkAt ts i).kind = 0) ∧ (ruleF x.toNat (rtok (tkAt ts i)) d).2.2 = false ∧ r = ((tkAt ts i).pos : Int)) ∨
     ∃ (k : Nat) (m : List UInt8) (u : Bool), n = k + 1 ∧ ¬ (x = 80 ∧ (tkAt ts i).kind = 0) ∧ ruleF x.toNat (rtok (tkAt ts i)) d = (m, u, true) ∧
       Ans ts k (m ++ X) (if u = true ∧ lAt ts i = [40] then d + 1 else if u = true ∧ lAt ts i = [41] then d - 1 else d) (if u = true then i + 1 else i) r) := by
  cases h with
  | done _ X _ _ hi hX hk => exact ⟨80, X, rfl, hX, .inl ⟨rfl, hk, rfl⟩⟩
  | fail _ x X _ _ hi hX h80 hr => exact ⟨x, X, rfl, hX, .inr (.inl ⟨h80, hr, rfl⟩)⟩
  | step k x X _ _ _ m u hi hX h80 hr hn => exact ⟨x, X, rfl, hX, .inr (.inr ⟨k, m, u, rfl, h80, hr, hn⟩)⟩

set_option maxHeartbeats 2000000 in
set_option maxRecDepth 100000 in
theorem stands_any (ts : List Tk) (n0 : Nat) (r : Int) (w : World) (g cap : Nat) (h : TokAt w g cap ts) (hF : ∀ i, TkF (tkAt ts i)) (hl : ts.length ≤ 1501) (hA : Ans ts n0 [80] 0 0 r) :
    Calls Try.prog 58 #[.slice (some ⟨g, 0, none⟩) ts.length cap] w fun e w' => e = .returned (.int .i64 r) ∧ Below w.heap.size w w' := by
  obtain ⟨i0, hi0, hz0, hz1, hz2⟩ := info_parts Try.infoU8
  have HT := hide h
  have HF := hide hF
  have HA := hide hA
  clear h hF hA
  go_enter Try.func58, Try.ntmps58
  go_wp2
  go_loopg [3, 4, 5] n0 (fun n v d i wr => ∃ (T : List UInt8) (e : Int) (k : Nat), d = .int .i64 e ∧ i = .int .i64 k ∧ e ≤ (k : Int) ∧ -(k : Int) ≤ e ∧ Ans ts n T e k r ∧ wr.ownsRow w.heap.size 5 1 v T.length (bCells T.reverse) ∧ Below w.heap.size w wr)
  case atStart =>
    refine ⟨[80], 0, 0, rfl, rfl, by omega, by omega, HA.out, ?_, (Below.refl _ _).alloc (Nat.le_refl _) _⟩
    exact World.ownsRow_lit w #[.int .u8 80] 1 (Nat.le_refl _) (by unfold maxLen; omega) rfl
  case round =>
    obtain ⟨T, e, k, rfl, rfl, he1, he2, hans, hown, hbel⟩ := hrel
    obtain ⟨hTl, hk⟩ := hans.len
    obtain ⟨a, ha⟩ : ∃ a, a = rtok (tkAt ts k) := ⟨_, rfl⟩
    obtain ⟨x0, x1, x2, x3⟩ := HT.out.cells hbel hk a ha
    have hbs := hbel.size
    have j1 : (0 : Int) ≤ (k : Int) := by omega
    have j2 : (k : Int) < (ts.length : Int) := by omega
    obtain ⟨x, X, rfl, hX, hcase⟩ := hans.inv
    obtain ⟨g2, cap2, rfl, hg2, hg3⟩ := hown.form (by simp)
    have hcx : wr.cell? ⟨g2, X.length, none⟩ = some (.int .u8 (x.toNat : Int)) := by
      have := hown.cellAt X.length (by simp)
      rw [this]
      simp [bCells]
    have hcap : X.length + 1 ≤ cap2 := by
      rcases hown.2 with ⟨h0, _⟩ | ⟨_, c', _, h1, _, _, h2, _⟩
      · cases h0
      · cases h1; simpa using h2
    have HOWN := hide hown
    simp only [List.length_cons] at hTl ⊢
    have i1 : (0 : Int) < ((X.length + 1 : Nat) : Int) := by omega
    have i2 : ((X.length + 1 : Nat) : Int) - 1 = (X.length : Int) := by omega
    have i3 : (X.length : Int) < ((X.length + 1 : Nat) : Int) := by omega
    have i4 : (0 : Int) ≤ (X.length : Int) := by omega
    have i5 : (X.length : Int) ≤ (cap2 : Int) := by omega
    have hts : a.c = 115 → 0 < a.word.size := fun h => by
      have hc := c115 (tkAt ts k)
      rw [← ha, h] at hc
      have h4 : (tkAt ts k).kind = 4 := by simpa using hc.symm
      have hw : a.word = (tkAt ts k).text := by rw [ha]; unfold rtok; simp [h4]
      have hne := (HF.out k).pos (by omega)
      rw [hw]
      rw [← size_len]
      exact List.length_pos_iff.2 hne
    have HSTEP := hide (tok_step a wr)
    clear hown hans
    rcases hcase with ⟨rfl, hk0, hr⟩ | ⟨h80, hr0, hr⟩ | ⟨n', m, u, hgk, h80, hrule, hnext⟩
    · have q1 : ((a.c : Int) == 101) = true := by
        have := c101 (tkAt ts k)
        rw [← ha, hk0] at this
        rw [show (101 : Int) = ((101 : Nat) : Int) from rfl, beq_cast, this]; rfl
      have HR := hide hr
      clear hr hk0 ha
      go_wp2
      go_ret
      exact ⟨by rw [HR.out]; rfl, hbel.alloc hbel.size _⟩
    · have hq : (((x.toNat : Int) == 80) = true ∧ ((a.c : Int) == 101) = false) ∨ ((x.toNat : Int) == 80) = false := by
        by_cases hx : x = 80
        · left
          refine ⟨by rw [hx]; rfl, ?_⟩
          have := c101 (tkAt ts k)
          rw [← ha, beq_eq_false_iff_ne.2 (fun hz => h80 ⟨hx, hz⟩)] at this
          rw [show (101 : Int) = ((101 : Nat) : Int) from rfl, beq_cast, this]
        · right
          rw [beq_eq_false_iff_ne]
          intro h
          exact hx (UInt8.toNat_inj.1 (show x.toNat = 80 by omega))
      have hp : (tkAt ts k).pos = a.pos := by rw [ha]; rfl
      rw [← ha] at hr0
      rw [hp] at hr
      have HR := hide hr
      have HR0 := hide hr0
      clear hr hr0 ha hp h80
      rcases hq with ⟨q1, q2⟩ | q1
      all_goals
        go_wp2_with fail
        refine (rule_any x.toNat a e _ hts).mono ?_
        rintro e1 w1 ⟨rfl, hb1⟩
        obtain ⟨m, u, ok, hm⟩ : ∃ m u ok, ruleF x.toNat a e = (m, u, ok) := ⟨_, _, _, rfl⟩
        have hok := HR0.out
        rw [hm] at hok ⊢
        simp only at hok
        subst hok
        obtain ⟨d0, d1, d2, d3, hbw⟩ := HSTEP.out w1 hb1
        clear hb1 hm
        go_wp2_with fail
        go_ret
        exact ⟨by rw [HR.out]; rfl, hbel.trans (hbw.mono hbel.size)⟩
    · have hq : (((x.toNat : Int) == 80) = true ∧ ((a.c : Int) == 101) = false) ∨ ((x.toNat : Int) == 80) = false := by
        by_cases hx : x = 80
        · left
          refine ⟨by rw [hx]; rfl, ?_⟩
          have := c101 (tkAt ts k)
          rw [← ha, beq_eq_false_iff_ne.2 (fun hz => h80 ⟨hx, hz⟩)] at this
          rw [show (101 : Int) = ((101 : Nat) : Int) from rfl, beq_cast, this]
        · right
          rw [beq_eq_false_iff_ne]
          intro h
          exact hx (UInt8.toNat_inj.1 (show x.toNat = 80 by omega))
      have hk1 := (HF.out k).kw [40] (by decide)
      have hk2 := (HF.out k).kw [41] (by decide)
      rw [← ha] at hrule hk1 hk2
      have hml := hnext.len.1
      rw [List.length_append] at hml
      have HRU := hide hrule
      have HNX := hide hnext
      have HGK := hide hgk
      have HK := hide (And.intro hk1 hk2)
      clear hrule hnext hgk ha h80 hk1 hk2
      rcases hq with ⟨q1, q2⟩ | q1
      all_goals
        go_wp2_with fail
        refine (rule_any x.toNat a e _ hts).mono ?_
        rintro e1 w1 ⟨rfl, hb1⟩
        obtain ⟨M, hM1, hM2⟩ : ∃ M : ByteArray, M.data.toList = m ∧ tri (m, u, true) = .tuple #[.string M, .bool u, .bool true] := ⟨⟨m.toArray⟩, by simp, rfl⟩
        rw [HRU.out, hM2]
        have hMs : M.size = m.length := by rw [← hM1, size_len]
        have hown1 := bel_own (HOWN.out.alloc (.cells #[.int .u8 (a.c : Int), .string a.word, .int .i64 (a.pos : Int), .int .i64 (a.n : Int)] 157)) hb1
        rw [List.reverse_cons, bCells_app] at hown1
        have hown2 := ownsRow_pop (by simp [bCells]) hown1
        have hbx1 : wr.heap.size < w1.heap.size := by have := hb1.size; simp at this; omega
        obtain ⟨d0, d1, d2, d3, hbw⟩ := HSTEP.out w1 hb1
        have hbel1 : Below w.heap.size w w1 := hbel.trans (hbw.mono hbel.size)
        have HO2 := hide hown2
        have HM := hide (And.intro hM1 hMs)
        have k1 : (M.size : Int) ≤ 100 := by omega
        clear hb1 hown1 hown2 d0 d2 d3 hbw x0 x1 x2 x3 hcx hM1 hM2 hMs HRU hts HSTEP HOWN
        go_wp2_with fail
        generalize wr.heap.size = B at hg3 hbs d1 hbx1 ⊢
        go_loopw [3, 11] (fun v kk wx => ∃ j : Nat, j ≤ m.length ∧ kk = .int .i64 ((j : Int) - 1) ∧ wx.ownsRow w.heap.size 5 1 v (X.length + (m.length - j)) (bCells (X.reverse ++ (m.drop j).reverse)) ∧ Below w.heap.size w wx ∧ wx.cell? ⟨B, 1, none⟩ = some (.string a.word) ∧ v.ownBlock ≠ some B ∧ B < wx.heap.size) (fun _ kk _ => ((intOf kk) + 1).toNat)
        case atStart =>
          refine ⟨m.length, Nat.le_refl _, by rw [HM.out.2], ?_, hbel1, d1, ?_, hbx1⟩
          · rw [Nat.sub_self, Nat.add_zero, List.drop_length, List.reverse_nil, List.append_nil]
            exact HO2.out
          · intro h
            have : g2 = B := by simpa [Value.ownBlock] using h
            omega
        case round =>
          clear hbel hbel1 d1 HO2 hbx1
          obtain ⟨j, hj, rfl, hownx, hbelx, hcx, hne, hBlt⟩ := hrel
          have hbsx := hbelx.size
          cases j with
          | zero =>
            rw [List.drop_zero, Nat.sub_zero] at hownx
            have hlast : (bCells (X.reverse ++ m.reverse)) = bCells (m ++ X).reverse := by rw [List.reverse_append]
            have hlen : X.length + m.length = (m ++ X).length := by rw [List.length_append]; omega
            rw [hlast, hlen] at hownx
            have HO := hide hownx
            clear hownx hlast hlen
            have z1 : ¬ (0 : Int) ≤ ((0 : Nat) : Int) - 1 := by omega
            cases u with
            | false =>
              have hnx := HNX.out
              rw [if_neg (by simp), if_neg (by simp), if_neg (by simp)] at hnx
              have HN2 := hide hnx
              clear hnx
              go_wp2
              go_roundg n'
              case measure => have := HGK.out; omega
              case rel => exact ⟨m ++ X, e, k, rfl, rfl, he1, he2, HN2.out, HO.out, hbelx⟩
            | true =>
              have hnx := HNX.out
              by_cases h1 : a.l = [40]
              · have s1 := str_yes (t := a.word) h1
                rw [if_pos ⟨rfl, HK.out.1.1 h1⟩, if_pos rfl] at hnx
                have HN2 := hide hnx
                clear hnx h1
                go_wp2
                go_roundg n'
                case measure => have := HGK.out; omega
                case rel => exact ⟨m ++ X, e + 1, k + 1, by go_num, by go_num, by omega, by omega, HN2.out, HO.out, hbelx⟩
              · have s1 := str_no (t := a.word) h1
                by_cases h2 : a.l = [41]
                · have s2 := str_yes (t := a.word) h2
                  rw [if_neg (fun h => h1 (HK.out.1.2 h.2)), if_pos ⟨rfl, HK.out.2.1 h2⟩, if_pos rfl] at hnx
                  have HN2 := hide hnx
                  clear hnx h1 h2 s1
                  go_wp2
                  go_roundg n'
                  case measure => have := HGK.out; omega
                  case rel => exact ⟨m ++ X, e - 1, k + 1, by go_num, by go_num, by omega, by omega, HN2.out, HO.out, hbelx⟩
                · have s2 := str_no (t := a.word) h2
                  rw [if_neg (fun h => h1 (HK.out.1.2 h.2)), if_neg (fun h => h2 (HK.out.2.2 h.2)), if_pos rfl] at hnx
                  have HN2 := hide hnx
                  clear hnx h1 h2
                  go_wp2
                  go_roundg n'
                  case measure => have := HGK.out; omega
                  case rel => exact ⟨m ++ X, e, k + 1, rfl, by go_num, by omega, by omega, HN2.out, HO.out, hbelx⟩
          | succ j =>
            have hMs := HM.out.2
            have hjm : j < M.size := by omega
            have eb := byt_eq M j hjm
            have z1 : ((j + 1 : Nat) : Int) - 1 = (j : Int) := by omega
            have z2 : (0 : Int) ≤ (j : Int) := by omega
            have z3 : (j : Int) < (M.size : Int) := by omega
            have HOX := hide hownx
            have hnl : X.length + (m.length - (j + 1)) ≤ 200 := by omega
            clear hMs
            rw [z1]
            go_wp2_with (at_builtin; refine wpList_append_lies _ rfl _ _ _ rfl w.heap.size 5 i0 _ 1 1 Try.underlying160 hi0 hz0 hz1 hz2 rfl (by omega) _ (X.length + (m.length - (j + 1))) (bCells (X.reverse ++ (m.drop (j + 1)).reverse)) rfl (HOX.out.alloc _) ⟨wr.heap.size, 0, none⟩ 1 1 [.int .u8 (byt M j : Int)] rfl rfl (World.news_of_block (cs := #[.int .u8 (byt M j : Int)]) (t := 5) (fr := (0, 0)) (heap_alloc_new wr _)) (by simp [Value.oneCell']) (by omega) (by unfold maxLen; omega) (by omega) (by simp; omega) (wr.heap.size + 1) (by simp) ?_; intro g3 cap3 w3 hown3 hgrow hat hlt3)
            go_roundw
            case rel =>
              have hml2 : j < m.length := by omega
              have hb2 : byt M j = (m[j]'hml2).toNat := by
                unfold byt; rw [HM.out.1, List.getD_eq_getElem?_getD, List.getElem?_eq_getElem hml2]; rfl
              have hsz3 := hgrow.size
              simp at hsz3
              refine ⟨j, by omega, by go_num, ?_, ?_, ?_, ?_, by omega⟩
              · rw [List.drop_eq_getElem_cons hml2, List.reverse_cons, ← List.append_assoc, bCells_app, show X.length + (m.length - j) = X.length + (m.length - (j + 1)) + 1 by omega]
                have e1 : bCells [m[j]'hml2] = [.int .u8 (byt M j : Int)] := by rw [hb2]; rfl
                rw [e1]
                exact hown3
              · exact (hbelx.alloc hbelx.size _).grown hgrow (by simp; omega) (fun j hj => ownBlock_ge HOX.out j hj)
              · exact hgrow.cell (by rw [World.cell?_alloc_past _ _ _ hBlt]; exact hcx) (fun h => hne h.symm)
              · intro h
                have h' : g3 = B := by simpa [Value.ownBlock] using h
                rcases hat with hat | hat
                · rw [h'] at hat; exact hne hat
                · omega
            case measure => simp [intOf]

end Go.Proofs.Ytmndgoapkmhglab

namespace Go.Proofs.Ytmndgoapkmhglab
open Go.RowKit
attribute [local go_sem ↓] Go.wp_at_zero Go.wp_at_succ

/-- a declaration as the document's own reader has it. -/
structure RDc where
  name : ByteArray
  tok : Nat
  input : Bool
  truth : Bool
  place : Nat
  body : Nat

def rdc (ts : List Tk) (x : Dl) : RDc := if x.kind = 0 then ⟨nameD ts x, x.i + 1, true, false, 0, 0⟩ else ⟨nameD ts x, x.i + 1, false, x.kind == 2, placeD ts x, x.i + 5⟩
def RDc.cells (d : RDc) : List Value := [.string d.name, .int .i64 (d.tok : Int), .bool d.input, .bool d.truth, .int .i64 (d.place : Int), .int .i64 (d.body : Int)]
def rdCells (l : List RDc) : List Value := l.flatMap RDc.cells
theorem rdCells_snoc (l : List RDc) (t : RDc) : rdCells (l ++ [t]) = rdCells l ++ t.cells := by simp [rdCells]
theorem rd_len (t : RDc) : t.cells.length = 6 := rfl

theorem Try.infoRDecl : (Try.prog.info? 115).map (fun i => (i.zero, i.size, i.bytes)) = some (some (.agg #[.string ⟨#[]⟩, .int .i64 0, .bool false, .bool false, .int .i64 0, .int .i64 0]), 6, 48) := by kernel_rfl

/-- a row in a program that is being laid. -/
structure Rw where
  v : Value
  e : Nat
  sz : Nat
  n : Nat
  xs : List Value

/-- a program that is being laid: its block, and its rows, each its own. -/
structure RPV (w : World) (B q : Nat) (vT : Value) (R : Nat → Rw) : Prop where
  lt : q < w.heap.size
  blk : w.heap[q]? = some (.cells #[vT, (R 1).v, (R 2).v, (R 3).v, (R 4).v] 118)
  own : ∀ f, w.ownsRow B (R f).e (R f).sz (R f).v (R f).n (R f).xs
  nq : ∀ f, (R f).v.ownBlock ≠ some q
  dis : ∀ f f' k, f ≠ f' → (R f).v.ownBlock = some k → (R f').v.ownBlock ≠ some k

theorem RPV.below {w w' : World} {B q : Nat} {vT : Value} {R : Nat → Rw} (h : RPV w B q vT R) (hb : Below w.heap.size w w') : RPV w' B q vT R :=
  ⟨Nat.lt_of_lt_of_le h.lt hb.size, (hb.block q h.lt).trans h.blk, fun f => bel_own (h.own f) hb, h.nq, h.dis⟩

def putR (R : Nat → Rw) (f : Nat) (r : Rw) : Nat → Rw := fun k => if k = f then r else R k

theorem putR_at (R : Nat → Rw) (f : Nat) (r : Rw) : putR R f r f = r := by unfold putR; rw [if_pos rfl]
theorem putR_ne (R : Nat → Rw) (f k : Nat) (r : Rw) (h : k ≠ f) : putR R f r k = R k := by unfold putR; rw [if_neg h]
theorem putR_put (R : Nat → Rw) (f : Nat) (r r' : Rw) : putR (putR R f r) f r' = putR R f r' := by funext k; unfold putR; split <;> rfl

theorem RPV.push {w w1 : World} {B q : Nat} {vT : Value} {R : Nat → Rw} (h : RPV w B q vT R) (f : Nat) (r : Rw) (hr : R f = r) (hf : 1 ≤ f ∧ f ≤ 4) {g cap n : Nat} {xs : List Value} (hgrow : w.grownBy w1 r.v.ownBlock)
    (hown : w1.ownsRow B r.e r.sz (.slice (some ⟨g, 0, none⟩) n cap) n xs) (hat : r.v.ownBlock = some g ∨ w.heap.size ≤ g) :
    RPV (w1.setCell ⟨q, f, none⟩ (.slice (some ⟨g, 0, none⟩) n cap)) B q vT (putR R f ⟨.slice (some ⟨g, 0, none⟩) n cap, r.e, r.sz, n, xs⟩) := by
  subst hr
  have gq : g ≠ q := by
    rcases hat with hg | hg
    · rintro rfl; exact h.nq f hg
    · have := h.lt; omega
  have hg2 : w1.grownBy (w1.setCell ⟨q, f, none⟩ (.slice (some ⟨g, 0, none⟩) n cap)) (some q) := ⟨rfl, rfl, rfl, by simp, fun k _ hk => heap_setCell_other w1 ⟨q, f, none⟩ k _ (fun e => hk (by simp [e]))⟩
  have hbb : w1.heap[q]? = w.heap[q]? := hgrow.block q h.lt (Ne.symm (h.nq f))
  have hnew : ∀ f', f' ≠ f → ∀ k, (R f').v.ownBlock = some k → k ≠ g := by
    intro f' hne k hk
    rcases hat with hg | hg
    · rintro rfl; exact h.dis f' f k hne hk hg
    · have := ((h.own f').lt k hk).2; omega
  refine ⟨?_, ?_, fun f' => ?_, fun f' => ?_, fun f1 f2 k hne => ?_⟩
  · have := hgrow.size; have := h.lt; simp; omega
  · rw [heap_setCell_same w1 q f _ _ _ (hbb.trans h.blk)]
    obtain ⟨h1, h4⟩ := hf
    have hc : f = 1 ∨ f = 2 ∨ f = 3 ∨ f = 4 := by omega
    rcases hc with rfl | rfl | rfl | rfl <;> rfl
  · unfold putR
    split
    · exact hown.kept hg2 (.inr (by simp [Value.ownBlock, gq]))
    · rename_i hne
      refine ((h.own f').kept hgrow ?_).kept hg2 (.inr (h.nq f'))
      cases hv : (R f').v.ownBlock with
      | none => exact .inl rfl
      | some k => exact .inr (fun e => h.dis f' f k hne hv e.symm)
  · unfold putR
    split
    · simp [Value.ownBlock, gq]
    · exact h.nq f'
  · unfold putR
    split
    · rename_i e1
      rw [if_neg (fun e2 => hne (e1.trans e2.symm))]
      intro hk h2
      have : g = k := by simpa [Value.ownBlock] using hk
      exact hnew f2 (fun e2 => hne (e1.trans e2.symm)) k h2 this.symm
    · rename_i e1
      intro hk
      split
      · intro h2
        have : g = k := by simpa [Value.ownBlock] using h2
        exact hnew f1 e1 k hk this.symm
      · exact h.dis f1 f2 k hne hk

def R0 : Nat → Rw := fun f => if f = 1 then ⟨.slice none 0 0, 3, 1, 0, []⟩ else ⟨.slice none 0 0, 115, 6, 0, []⟩

theorem R0_nil (f : Nat) : (putR R0 1 ⟨.slice none 0 0, 3, 1, 0, []⟩ f).v = .slice none 0 0 ∧ (putR R0 1 ⟨.slice none 0 0, 3, 1, 0, []⟩ f).n = 0 ∧ (putR R0 1 ⟨.slice none 0 0, 3, 1, 0, []⟩ f).xs = [] := by
  unfold putR R0
  split
  · exact ⟨rfl, rfl, rfl⟩
  · exact ⟨rfl, rfl, rfl⟩

/-- the rows of a program. -/
def RRw (n : Nat) (xs : List Value) (v vA vI vQ : Value) (A I Q : List RDc) : Nat → Rw := fun f =>
  if f = 1 then ⟨v, 3, 1, n, xs⟩ else if f = 2 then ⟨vA, 115, 6, A.length, rdCells A⟩ else if f = 3 then ⟨vI, 115, 6, I.length, rdCells I⟩
  else if f = 4 then ⟨vQ, 115, 6, Q.length, rdCells Q⟩ else ⟨.slice none 0 0, 115, 6, 0, []⟩
theorem RRw_put2 (n : Nat) (xs : List Value) (v vA vI vQ u : Value) (A I Q : List RDc) (d : RDc) : putR (RRw n xs v vA vI vQ A I Q) 2 ⟨u, 115, 6, A.length + 1, rdCells A ++ d.cells⟩ = RRw n xs v u vI vQ (A ++ [d]) I Q := by
  funext f; unfold putR RRw
  by_cases h : f = 2
  · subst h; simp [rdCells_snoc]
  · rw [if_neg h]; simp [h]
theorem RRw_put3 (n : Nat) (xs : List Value) (v vA vI vQ u : Value) (A I Q : List RDc) (d : RDc) : putR (RRw n xs v vA vI vQ A I Q) 3 ⟨u, 115, 6, I.length + 1, rdCells I ++ d.cells⟩ = RRw n xs v vA u vQ A (I ++ [d]) Q := by
  funext f; unfold putR RRw
  by_cases h : f = 3
  · subst h; simp [rdCells_snoc]
  · rw [if_neg h]; simp [h]
theorem RRw_put4 (n : Nat) (xs : List Value) (v vA vI vQ u : Value) (A I Q : List RDc) (d : RDc) : putR (RRw n xs v vA vI vQ A I Q) 4 ⟨u, 115, 6, Q.length + 1, rdCells Q ++ d.cells⟩ = RRw n xs v vA vI u A I (Q ++ [d]) := by
  funext f; unfold putR RRw
  by_cases h : f = 4
  · subst h; simp [rdCells_snoc]
  · rw [if_neg h]; simp [h]
theorem RRw_start (n : Nat) (xs : List Value) (v : Value) : putR R0 1 ⟨v, 3, 1, n, xs⟩ = RRw n xs v (.slice none 0 0) (.slice none 0 0) (.slice none 0 0) [] [] [] := by
  funext f; unfold putR R0 RRw
  by_cases h : f = 1
  · simp [h]
  · rw [if_neg h, if_neg h, if_neg h]
    by_cases h2 : f = 2
    · simp [h2, rdCells]
    · by_cases h3 : f = 3
      · simp [h3, rdCells]
      · by_cases h4 : f = 4
        · simp [h4, rdCells]
        · simp [h2, h3, h4]

/-- a program that is being laid, and a declaration in its box. -/
structure St (w0 W : World) (q N : Nat) (vT : Value) (R : Nat → Rw) (d : RDc) : Prop where
  rp : RPV W w0.heap.size q vT R
  blk : W.heap[N]? = some (.cells #[.string d.name, .int .i64 (d.tok : Int), .bool d.input, .bool d.truth, .int .i64 (d.place : Int), .int .i64 (d.body : Int)] 115)
  nq : N ≠ q
  nr : ∀ f, (R f).v.ownBlock ≠ some N
  bel : Below w0.heap.size w0 W
  q0 : w0.heap.size ≤ q

theorem St.push {w0 W w3 : World} {q N : Nat} {vT : Value} {R : Nat → Rw} {d : RDc} (h : St w0 W q N vT R d) (f : Nat) (r : Rw) (hr : R f = r) (hf : 1 ≤ f ∧ f ≤ 4) (o : Obj) {g cap n : Nat} {xs : List Value}
    (hgrow : (W.alloc o).drew.grownBy w3 r.v.ownBlock) (hown : w3.ownsRow w0.heap.size r.e r.sz (.slice (some ⟨g, 0, none⟩) n cap) n xs) (hat : r.v.ownBlock = some g ∨ g = W.heap.size + 1) :
    St w0 (w3.setCell ⟨q, f, none⟩ (.slice (some ⟨g, 0, none⟩) n cap)) q N vT (putR R f ⟨.slice (some ⟨g, 0, none⟩) n cap, r.e, r.sz, n, xs⟩) d := by
  have hlt : N < W.heap.size := by
    rcases Nat.lt_or_ge N W.heap.size with hl | hg
    · exact hl
    · have := h.blk; rw [Array.getElem?_eq_none hg] at this; cases this
  have hNr : r.v.ownBlock ≠ some N := hr ▸ h.nr f
  have hgN : g ≠ N := by
    rcases hat with hg | hg
    · rintro rfl; exact hNr hg
    · omega
  have hb : Below W.heap.size W (W.alloc o).drew := ((Below.refl _ _).alloc (Nat.le_refl _) o).drew
  have hsz : (W.alloc o).drew.heap.size = W.heap.size + 1 := by simp
  have hbe : ∀ k, r.v.ownBlock = some k → w0.heap.size ≤ k := fun k hk => ((hr ▸ h.rp.own f : W.ownsRow w0.heap.size r.e r.sz r.v r.n r.xs).lt k hk).1
  refine ⟨(h.rp.below hb).push f r hr hf hgrow hown (hat.imp id (fun e => by rw [hsz]; omega)), ?_, h.nq, fun f' => ?_, ?_, h.q0⟩
  · rw [heap_setCell_other w3 ⟨q, f, none⟩ N _ h.nq, hgrow.block N (by rw [hsz]; omega) (Ne.symm hNr)]
    rw [hb.block N hlt]; exact h.blk
  · unfold putR
    split
    · simp [Value.ownBlock, hgN]
    · exact h.nr f'
  · refine Below.setCell ?_ h.q0 _
    exact (h.bel.trans (hb.mono h.bel.size)).grown hgrow (by rw [hsz]; have := h.bel.size; omega) (fun j hj => hbe j hj)

theorem St.cells {w0 W : World} {q N : Nat} {vT : Value} {R : Nat → Rw} {d : RDc} (h : St w0 W q N vT R d) :
    N < W.heap.size ∧ q < W.heap.size ∧ (W.cell? ⟨N, 0, none⟩ = some (.string d.name) ∧ W.cell? ⟨N, 1, none⟩ = some (.int .i64 (d.tok : Int)) ∧ W.cell? ⟨N, 2, none⟩ = some (.bool d.input) ∧ W.cell? ⟨N, 3, none⟩ = some (.bool d.truth) ∧ W.cell? ⟨N, 4, none⟩ = some (.int .i64 (d.place : Int)) ∧ W.cell? ⟨N, 5, none⟩ = some (.int .i64 (d.body : Int))) := by
  have hlt : N < W.heap.size := by
    rcases Nat.lt_or_ge N W.heap.size with hl | hg
    · exact hl
    · have := h.blk; rw [Array.getElem?_eq_none hg] at this; cases this
  exact ⟨hlt, h.rp.lt, cell_of_row W N 0 _ _ _ h.blk, cell_of_row W N 1 _ _ _ h.blk, cell_of_row W N 2 _ _ _ h.blk, cell_of_row W N 3 _ _ _ h.blk, cell_of_row W N 4 _ _ _ h.blk, cell_of_row W N 5 _ _ _ h.blk⟩

theorem St.row {w0 W : World} {q N : Nat} {vT : Value} {R : Nat → Rw} {d : RDc} (h : St w0 W q N vT R d) (f : Nat) (r : Rw) (hr : R f = r) (hf : 1 ≤ f ∧ f ≤ 4) :
    (∀ o, (W.alloc o).cell? ⟨q, f, none⟩ = some r.v) ∧ (∀ o, (W.alloc o).frozen? ⟨q, f, none⟩ = false) ∧ W.cell? ⟨q, f, none⟩ = some r.v ∧ W.frozen? ⟨q, f, none⟩ = false ∧ W.ownsRow w0.heap.size r.e r.sz r.v r.n r.xs ∧ r.v.ownBlock ≠ some q := by
  subst hr
  have c : W.cell? ⟨q, f, none⟩ = some (R f).v := by
    have hc : f = 1 ∨ f = 2 ∨ f = 3 ∨ f = 4 := by omega
    rcases hc with rfl | rfl | rfl | rfl
    · exact cell_of_row W q 1 _ _ _ h.rp.blk
    · exact cell_of_row W q 2 _ _ _ h.rp.blk
    · exact cell_of_row W q 3 _ _ _ h.rp.blk
    · exact cell_of_row W q 4 _ _ _ h.rp.blk
  have fz : W.frozen? ⟨q, f, none⟩ = false := frozen_of_row W q f _ _ h.rp.blk
  exact ⟨fun o => by rw [World.cell?_alloc_past _ _ _ h.rp.lt]; exact c, fun o => by rw [World.frozen?_alloc_past _ _ _ h.rp.lt]; exact fz, c, fz, h.rp.own f, h.rp.nq f⟩

theorem St.below {w0 W W' : World} {q N : Nat} {vT : Value} {R : Nat → Rw} {d : RDc} (h : St w0 W q N vT R d) (hb : Below W.heap.size W W') : St w0 W' q N vT R d := by
  have hlt := h.cells.1
  exact ⟨h.rp.below hb, (hb.block N hlt).trans h.blk, h.nq, h.nr, h.bel.trans (hb.mono h.bel.size), h.q0⟩

theorem St.poke {w0 W : World} {q N : Nat} {vT : Value} {R : Nat → Rw} {d : RDc} (h : St w0 W q N vT R d) (hN : w0.heap.size ≤ N) (tr : Bool) (pl bo : Nat) :
    St w0 (((W.setCell ⟨N, 3, none⟩ (.bool tr)).setCell ⟨N, 4, none⟩ (.int .i64 (pl : Int))).setCell ⟨N, 5, none⟩ (.int .i64 (bo : Int))) q N vT R ⟨d.name, d.tok, d.input, tr, pl, bo⟩ := by
  have keep : ∀ (W : World) (k : Nat) (u : Value), RPV W w0.heap.size q vT R → RPV (W.setCell ⟨N, k, none⟩ u) w0.heap.size q vT R := fun W k u hr =>
    ⟨by have := hr.lt; simpa using this, (heap_setCell_other W ⟨N, k, none⟩ q _ (Ne.symm h.nq)).trans hr.blk,
     fun f => (hr.own f).kept (row := some N) ⟨rfl, rfl, rfl, by simp, fun j _ hj => heap_setCell_other W ⟨N, k, none⟩ j _ (fun e => hj (by simp [e]))⟩ (.inr (h.nr f)), hr.nq, hr.dis⟩
  refine ⟨keep _ _ _ (keep _ _ _ (keep _ _ _ h.rp)), ?_, h.nq, h.nr, ((h.bel.setCell hN _).setCell hN _).setCell hN _, h.q0⟩
  rw [heap_setCell_same _ N 5 _ _ _ (heap_setCell_same _ N 4 _ _ _ (heap_setCell_same _ N 3 _ _ _ h.blk))]
  rfl

end Go.Proofs.Ytmndgoapkmhglab
