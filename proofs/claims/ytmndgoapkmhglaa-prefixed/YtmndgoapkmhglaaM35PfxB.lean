import Derived.Test.YtmndgoapkmhglaaM20LayN
import Derived.Test.YtmndgoapkmhglaaM31GoodT
import Derived.Test.YtmndgoapkmhglaaM32StrD
import Derived.Test.YtmndgoapkmhglaaM33MarkC
import Derived.Test.YtmndgoapkmhglaaM34MarkF
/- Prefixed. -/
namespace Go.Proofs.Ytmndgoapkmhglaa
open Go.RowKit
attribute [local go_sem ↓] Go.wp_at_zero Go.wp_at_succ

/-- what a program's Streams has handed over, read later. -/
structure RdRows (w : World) (v : Value) (m n : Nat) (F : Nat → Nat → Int) : Prop where
  ex : ∃ (a : Option Addr) (cap g : Nat) (AK : Nat → Option Addr) (CK : Nat → Nat), v = .slice a m cap ∧ (0 < m → a = some ⟨g, 0, none⟩ ∧ g < w.heap.size) ∧
    ∀ i, i < m → w.cell? ⟨g, i, none⟩ = some (.slice (AK i) n (CK i)) ∧ RowAt w (.slice (AK i) n (CK i)) (rowF F i n) ∧ n ≤ CK i
theorem OwnRows.rd {B : Nat} {w : World} {v : Value} {m n : Nat} {F : Nat → Nat → Int} {g : Nat} {RV : Nat → Value} (h : OwnRows B w v m n F g RV) (hn : n ≤ 1000) : RdRows w v m n F := by
  obtain ⟨a, cap, h1, h2⟩ := h.shape
  have hsh : ∀ i, ∃ p : Option Addr × Nat, i < m → RV i = .slice p.1 n p.2 ∧ n ≤ p.2 := fun i => by
    by_cases hi : i < m
    · rcases (h.rows i hi).2 with ⟨h3, h4⟩ | ⟨g', cap', cur, h3, _, _, h4, _⟩
      · exact ⟨(none, 0), fun _ => ⟨by rw [h3, h4], by omega⟩⟩
      · exact ⟨(some ⟨g', 0, none⟩, cap'), fun _ => ⟨h3, h4⟩⟩
    · exact ⟨(none, 0), fun h => absurd h hi⟩
  obtain ⟨p, hp⟩ := Classical.axiomOfChoice hsh
  refine ⟨a, cap, g, fun i => (p i).1, fun i => (p i).2, h1, fun hm => ⟨h2 hm, World.block_lt_of_cell? _ _ (h.outer 0 hm)⟩, fun i hi => ?_⟩
  obtain ⟨e1, e2⟩ := hp i hi
  refine ⟨by rw [← e1]; exact h.outer i hi, ?_, e2⟩
  rw [← e1]
  exact own_row (h.rows i hi) hn (rowF_len F i n)
theorem RdRows.below {w w' : World} {v : Value} {m n : Nat} {F : Nat → Nat → Int} (h : RdRows w v m n F) (hb : Below w.heap.size w w') : RdRows w' v m n F := by
  obtain ⟨a, cap, g, AK, CK, h1, h2, h3⟩ := h.ex
  exact ⟨a, cap, g, AK, CK, h1, fun hm => ⟨(h2 hm).1, Nat.lt_of_lt_of_le (h2 hm).2 hb.size⟩, fun i hi => ⟨(hb.cell (p := ⟨g, i, none⟩) (h2 (by omega)).2).trans (h3 i hi).1, (h3 i hi).2.1.below hb, (h3 i hi).2.2⟩⟩

theorem strR_in {s : ByteArray} {n : Nat} (h : n ≤ 200) : strR s (n : Int) = (textF s).1 := by
  unfold strR
  by_cases h0 : (textF s).1 = 0
  · rw [if_neg (by simpa using h0), if_neg (by omega), h0]
  · rw [if_pos h0]

/-- what is known of the answer to Streams. -/
theorem strq_in {s : ByteArray} {ins : List (List Int)} {n B : Nat} {w' : World} {v : Value} (hn : n ≤ 200) (h : StrQ s ins (n : Int) B w' v) :
    ((textF s).1 = 0 → ∀ L, RGood s L → Right (toks s) L → RdRows w' v (eqL L).length n (sol (toks s) L ins)) ∧ ((textF s).1 ≠ 0 → ∃ a cap, v = .slice a 0 cap) := by
  unfold StrQ at h
  rw [strR_in hn] at h
  refine ⟨fun h0 L hG hR => ?_, fun h0 => ?_⟩
  · rw [if_pos h0] at h
    obtain ⟨g, RV, hO⟩ := h L hG hR
    rw [show ((n : Nat) : Int).toNat = n by omega] at hO
    exact hO.rd (by omega)
  · rw [if_neg h0] at h; exact h

theorem rowF_take (F : Nat → Nat → Int) (i n m : Nat) : (rowF F i (n + m)).take n = rowF F i n := by
  unfold rowF
  rw [← List.map_take, List.take_range, Nat.min_eq_left (by omega)]

set_option maxHeartbeats 4000000 in
set_option maxRecDepth 100000 in
theorem prefixed_any (s : ByteArray) (hs : s.size ≤ maxLen) (w : World) (A : Option Addr) (C : Nat) (ins : List (List Int)) (AS : Nat → Option Addr) (CS : Nat → Nat) (hA : ArgL w A C ins AS CS) (n0 m0 : Int) (hn0 : -9223372036854775808 ≤ n0) (hn0' : n0 ≤ 9223372036854775807) (hm0 : -9223372036854775808 ≤ m0) (hm0' : m0 ≤ 9223372036854775807) :
    Calls Try.prog 7 #[.string s, .slice A ins.length C, .int .i64 n0, .int .i64 m0] w fun e w' => e = .returned (.bool true) ∧ Below w.heap.size w w' := by
  have H1 := hide (pick_any n0 201 w hn0 hn0' (by omega) (by omega))
  have hlt := pickN_lt n0 (m := 201) (by omega)
  generalize pickN n0 201 = n at H1 hlt
  have H2 := hide (pick_any m0 (201 - n) w hm0 hm0' (by omega) (by omega))
  have hlt2 := pickN_lt m0 (m := 201 - n) (by omega)
  generalize pickN m0 (201 - n) = m at H2 hlt2
  have HE : Hid (((201 - n : Nat) : Int) = 201 - (n : Int)) := hide (by omega)
  rw [HE.out] at H2
  have HA := hide hA
  have H3 := hide (kcut_any w A C ins AS CS n hA (by omega))
  have H5 := hide (fun W => check_all s W hs)
  have H6 := hide (fun W v h => streams_any s hs W v (ins.map fun l => l.take n) h (n : Int))
  have H7 := hide (fun W v h => streams_any s hs W v ins h ((n + m : Nat) : Int))
  rw [strR_in (by omega)] at H6 H7
  have HSN : Hid (((n + m : Nat) : Int) = (n : Int) + (m : Int)) := hide (by omega)
  have HQ6 := hide (fun B w' v => strq_in (s := s) (ins := ins.map fun l => l.take n) (n := n) (B := B) (w' := w') (v := v) (by omega))
  have HQ7 := hide (fun B w' v => strq_in (s := s) (ins := ins) (n := n + m) (B := B) (w' := w') (v := v) (by omega))
  have HSZ : Hid ((textF s).1 = 0 → s.size ≤ 1500) := hide (fun h => text_small (by omega))
  simp only [HSN.out] at H7 HQ7
  have HGT := hide (fun h => good_text (s := s) h)
  generalize (textF s).1 = er at H5 H6 H7 HQ6 HQ7 HSZ HGT
  generalize (textF s).2 = ea at H5
  clear hs hA hn0 hn0' hm0 hm0'
  go_enter Try.func7, Try.ntmps7
  go_wp2_with fail
  refine H1.out.mono ?_
  rintro e w1 ⟨rfl, rfl⟩
  go_wp2_with fail
  refine H2.out.mono ?_
  rintro e w1 ⟨rfl, rfl⟩
  go_wp2_with fail
  refine H3.out.mono ?_
  rintro e w1 ⟨vc, rfl, hlc, hb1⟩
  have HL := hide hlc
  have HB1 := hide hb1
  clear hlc hb1
  go_wp2_with fail
  refine (answers_any _).mono ?_
  rintro e w2 ⟨rfl, hb2⟩
  have HL2 := hide (HL.out.below hb2)
  have HB2 := hide (HB1.out.trans (hb2.mono HB1.out.size))
  clear hb2 HL HB1 H1 H2 H3
  go_wp2_with fail
  refine (H5.out w2).mono ?_
  rintro e w3 ⟨rfl, hb3⟩
  have HL3 := hide (HL2.out.below hb3)
  have HB3 := hide (HB2.out.trans (hb3.mono HB2.out.size))
  clear hb3 HL2 HB2
  go_wp2_with fail
  refine (H6.out w3 vc HL3.out).mono ?_
  rintro e w4 ⟨vs, rfl, hq6, hb4⟩
  have HS := hide (HQ6.out _ _ _ hq6)
  have HB4 := hide (HB3.out.trans (hb4.mono HB3.out.size))
  clear hb4 hq6 HL3 HB3 H5 H6 HQ6
  go_wp2_with fail
  refine (H7.out w4 (.slice A ins.length C) (HA.out.below HB4.out).ls).mono ?_
  rintro e w5 ⟨vl, rfl, hq7, hb5⟩
  have HSL := hide (HQ7.out _ _ _ hq7)
  have HB5 := hide (HB4.out.trans (hb5.mono HB4.out.size))
  have HB45 := hide hb5
  clear hb5 hq7 HB4 H7 HQ7
  by_cases he0 : er = 0
  · subst he0
    obtain ⟨L, hG, hR, _⟩ := HGT.out rfl
    have hrs := (HS.out.1 rfl L hG hR).below HB45.out
    have hrl := HSL.out.1 rfl L hG hR
    have hszs := HSZ.out rfl
    obtain ⟨az, cz, gz, AK, CK, rfl, has, hcs⟩ := hrs.ex
    obtain ⟨al, cl, gl, AL, CL, rfl, hal, hcl⟩ := hrl.ex
    have HFE : Hid (∀ i, rowF (sol (toks s) L (ins.map fun l => l.take n)) i n = (rowF (sol (toks s) L ins) i (n + m)).take n) := hide (fun i => by
      rw [rowF_take]
      unfold rowF
      refine List.map_congr_left fun k hk => sol_ins _ _ fun i' k' hk' => ?_
      have := List.mem_range.1 hk
      exact elem_cut ins n i' k' (by omega))
    have hfew := hR.few.1
    have HSE := hide (seats_any s w5 (Nat.le_trans hszs (by decide)))
    rw [seats_text hG.sp, List.length_map] at HSE
    generalize (eqL L).length = M at *
    have HCS := hide hcs
    have HCL := hide hcl
    have HAS := hide has
    have HAL := hide hal
    clear hcs hcl has hal hrs hrl HS HSL HGT HSZ hG hR
    go_wp2_with fail
    refine HSE.out.mono ?_
    rintro e w6 ⟨vw, rfl, how, hb6⟩
    obtain ⟨aw, cw, rfl, _⟩ := own_shape how
    have HB6 := hide (HB5.out.trans (hb6.mono HB5.out.size))
    have HB56 := hide hb6
    clear how hb6 HSE HB5
    go_wp2
    go_loopw [18] (fun vi wr => ∃ k : Nat, k ≤ M ∧ vi = .int .i64 k ∧ Below w6.heap.size w6 wr) (fun vi _ => M - (intOf vi).toNat)
    case atStart => exact ⟨0, Nat.zero_le _, rfl, by first | exact Below.refl _ _ | exact below_drewN (Below.refl _ _) _⟩
    case round =>
      obtain ⟨k, hk, rfl, hbr⟩ := hrel
      have HBR := hide hbr
      have HB5r : Hid (Below w5.heap.size w5 wr) := hide (HB56.out.trans (hbr.mono HB56.out.size))
      by_cases hkM : k < M
      · obtain ⟨rfl, hgz⟩ := HAS.out (by omega)
        obtain ⟨rfl, hgl⟩ := HAL.out (by omega)
        obtain ⟨c1, r1, n1⟩ := HCS.out k hkM
        obtain ⟨c2, r2, n2⟩ := HCL.out k hkM
        have HX : Hid (∀ W, Below w5.heap.size w5 W → W.cell? ⟨gz, k, none⟩ = some (.slice (AK k) n (CK k)) ∧ W.cell? ⟨gl, k, none⟩ = some (.slice (AL k) (n + m) (CL k))) := hide (fun W hW => ⟨(hW.cell (p := ⟨gz, k, none⟩) hgz).trans c1, (hW.cell (p := ⟨gl, k, none⟩) hgl).trans c2⟩)
        have HSM : Hid (∀ W, Below w5.heap.size w5 W → Calls Try.prog 26 #[.slice (AK k) n (CK k), .slice (AL k) n (CL k)] W fun e w' => e = .returned (.bool true) ∧ Below W.heap.size W w') := hide (fun W hW => by
          have hl := rowF_len (sol (toks s) L ins) k (n + m)
          have h2 : RowAt W (.slice (AL k) n (CL k)) ((rowF (sol (toks s) L ins) k (n + m)).take n) := RowAt.take (by rw [hl]; exact r2.below hW) (by omega)
          have := ksame_any W _ _ _ _ (r1.below hW) h2
          rwa [HFE.out k, show ((rowF (sol (toks s) L ins) k (n + m)).take n == (rowF (sol (toks s) L ins) k (n + m)).take n) = true by simp] at this)
        obtain ⟨x1, x2⟩ := HX.out wr HB5r.out
        generalize AK k = ak at x1 HX HSM
        generalize CK k = ck at x1 HX HSM n1
        generalize AL k = alk at x2 HX HSM
        generalize CL k = clk at x2 HX HSM n2
        have j3 : (0 : Int) ≤ (k : Int) := by omega
        have j4 : (k : Int) < (M : Int) := by omega
        have j5 : (0 : Int) ≤ (n : Int) := by omega
        have j6 : n ≤ clk := by omega
        have j7 : (n : Int) ≤ (clk : Int) := by omega
        have HSN2 : Hid (((n + m : Nat) : Int) = (n : Int) + (m : Int)) := hide (by omega)
        clear c1 r1 c2 r2 hgz hgl
        have g1 : gz < wr.heap.size := World.block_lt_of_cell? _ _ x1
        have g2 : gl < wr.heap.size := World.block_lt_of_cell? _ _ x2
        go_wp2_with fail
        go_region_held3 (fun w' => w'.cell? ⟨gz, k, none⟩ = some (.slice ak n ck) ∧ w'.cell? ⟨gl, k, none⟩ = some (.slice alk (n + m) clk)) (go_keep)
          ((go_at_call 26; refine (HSM.out _ HB5r.out.drew).mono ?_; rintro e wa ⟨rfl, hba⟩; have t1 := (hba.cell (p := ⟨gz, k, none⟩) g1).trans x1; have t2 := (hba.cell (p := ⟨gl, k, none⟩) g2).trans x2))
        rename_i hHeld
        clear hHeld t1 t2
        have HBA : Hid (Below w6.heap.size w6 wa) := hide (HBR.out.drew.trans (hba.mono HBR.out.size))
        clear x1 x2 hba
        go_wp2
        go_roundw
        case rel => exact ⟨k + 1, by omega, by go_num, by first | exact HBA.out | exact below_drewN HBA.out _⟩
        case measure => simp [intOf]; omega
      · have ek : k = M := by omega
        subst ek
        have z1 : ¬ (k : Int) < (k : Int) := by omega
        go_wp2
        go_ret
        exact ⟨rfl, HB6.out.trans (HBR.out.mono HB6.out.size)⟩
  · obtain ⟨a1, c1, rfl⟩ := HS.out.2 he0
    obtain ⟨a2, c2, rfl⟩ := HSL.out.2 he0
    have q1 : ((er : Int) != 0) = true := by rw [bne_iff_ne]; omega
    clear HS HSL HGT HSZ
    go_wp2
    go_ret
    exact ⟨rfl, by first | exact HB5.out | exact below_drewN HB5.out _⟩

end Go.Proofs.Ytmndgoapkmhglaa
