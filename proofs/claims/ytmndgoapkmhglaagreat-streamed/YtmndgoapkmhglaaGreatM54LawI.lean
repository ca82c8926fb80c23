import Derived.Test.YtmndgoapkmhglaaGreatM50LawG
import Derived.Test.YtmndgoapkmhglaaGreatM53PStr
/- Streamed. -/
namespace Go.Proofs.YtmndgoapkmhglaaGreat
open Go.RowKit
attribute [local go_sem ↓] Go.wp_at_zero Go.wp_at_succ

theorem Tryz.infoOwn : (Tryz.prog.info? 36).map (fun i => (i.zero, i.size, i.bytes)) = some (some (.agg #[.slice none 0 0, .slice none 0 0, .slice none 0 0, .slice none 0 0, .int .i64 0]), 5, 104) := by kernel_rfl

def ownCells (l : List OwnV) : List Value := l.flatMap OwnV.cells
theorem ownCells_snoc (l : List OwnV) (o : OwnV) : ownCells (l ++ [o]) = ownCells l ++ o.cells := by simp [ownCells]
theorem own5_len (o : OwnV) : o.cells.length = 5 := rfl

theorem GivenV.shape {w : World} {B : Nat} {A : Option Addr} {ins : List (List Int)} {AS : Nat → Option Addr} {vo vi : Value} (h : GivenV w B A ins AS vo vi) : ∃ ao lo co ai li ci, vo = .slice ao lo co ∧ vi = .slice ai li ci := by
  rcases h with ⟨_, rfl, rfl⟩ | ⟨_, go, gi, gm, V, rfl, rfl, _⟩
  · exact ⟨_, _, _, _, _, _, rfl, rfl⟩
  · exact ⟨_, _, _, _, _, _, rfl, rfl⟩

/-- what both calls have handed over. -/
structure Both (w2 w3 : World) (B : Nat) (vr vw : Value) (m N : Nat) (F : Nat → Nat → Int) (g gw : Nat) (RV : Nat → Value) (R : Nat → Nat) : Prop where
  few : m ≤ 12
  small : N ≤ 200
  vr : ∃ (a : Option Addr) (cap : Nat), vr = .slice a m cap ∧ (0 < m → a = some ⟨g, 0, none⟩)
  vw : ∃ (a : Option Addr) (cap : Nat), vw = .slice a m cap ∧ (0 < m → a = some ⟨gw, 0, none⟩)
  outer : ∀ i, i < m → w3.cell? ⟨g, i, none⟩ = some (RV i)
  rows : ∀ i, i < m → w3.ownsRow B 3 1 (RV i) N (iCells (rowF F i N))
  blk : ∀ i, i < m → ∀ b, (RV i).ownBlock = some b → b < w2.heap.size
  apart : ∀ i j, i < m → j < m → i ≠ j → ∀ b, (RV i).ownBlock = some b → (RV j).ownBlock ≠ some b
  ne : ∀ i, i < m → (RV i).ownBlock ≠ some g
  gl : 0 < m → g < w2.heap.size
  want : ∀ w', (∀ b, w2.heap.size ≤ b → b < w3.heap.size → w'.heap[b]? = w3.heap[b]?) → w3.heap.size ≤ w'.heap.size → ∀ i, i < m → w'.cell? ⟨gw, i, none⟩ = some (.slice (some ⟨R i, 0, none⟩) N N) ∧ RowAt w' (.slice (some ⟨R i, 0, none⟩) N N) (rowF F i N)

theorem both_of {s : ByteArray} {ins : List (List Int)} {n : Int} {B : Nat} {w2 w3 : World} {vr vw : Value} (hq : StrQ s ins n B w2 vr) (hr : StrOk s ins n w2.heap.size w3 vw) (hb : Below w2.heap.size w2 w3) :
    ∃ m N F g gw RV R, Both w2 w3 B vr vw m N F g gw RV R := by
  unfold StrQ at hq
  unfold StrOk at hr
  by_cases h0 : strR s n = 0
  · rw [if_pos h0] at hq hr
    obtain ⟨L, hG, hR, hO⟩ := hr
    obtain ⟨g, RV, hw⟩ := hq L hG hR
    have hn : n.toNat ≤ 200 := by
      unfold strR at h0
      split at h0
      · contradiction
      · split at h0
        · cases h0
        · omega
    obtain ⟨a, gw, cap, R, h1, h2, h3, h4, h5⟩ := hO.row (by omega)
    refine ⟨(eqL L).length, n.toNat, _, g, gw, RV, R, ⟨hR.few.1, hn, hw.shape, ⟨a, cap, h1, h2⟩, fun i hi => ?_, fun i hi => bel_own (hw.rows i hi) hb, fun i hi b hb' => ((hw.rows i hi).lt b hb').2, hw.apart, hw.ne, fun hp => World.block_lt_of_cell? _ _ (hw.outer 0 hp), fun w' hk hs i hi => ?_⟩⟩
    · have := hw.outer i hi
      rw [hb.cell (p := ⟨g, i, none⟩) (World.block_lt_of_cell? _ _ this)]; exact this
    · exact h5 w' (fun b hb1 hb2 => hk b hb1 hb2) hs i hi
  · rw [if_neg h0] at hq hr
    obtain ⟨a, cap, rfl⟩ := hq
    exact ⟨0, 0, fun _ _ => 0, 0, 0, fun _ => .slice none 0 0, fun _ => 0, ⟨by omega, by omega, ⟨a, cap, rfl, fun h => by omega⟩, ⟨none, 0, hr, fun h => by omega⟩, fun i hi => by omega, fun i hi => by omega, fun i hi => by omega, fun i j hi => by omega, fun i hi => by omega, fun h => by omega, fun w' _ _ i hi => by omega⟩⟩

/-- how far their owner has come. -/
structure Owning (w3 wr : World) (m k : Nat) (RV : Nat → Value) (os : List OwnV) (vO : Value) : Prop where
  o1 : wr.os = w3.os
  o2 : wr.tape = w3.tape
  o3 : wr.output = w3.output
  size : w3.heap.size ≤ wr.heap.size
  fr : ∀ b, b < w3.heap.size → (∀ l, l < k → (RV l).ownBlock ≠ some b) → wr.heap[b]? = w3.heap[b]?
  len : os.length = k
  own : wr.ownsRow w3.heap.size 36 5 vO k (ownCells os)
  all : ∀ o ∈ os, OwnAt wr (fun b => vO.ownBlock ≠ some b ∧ ∀ l, k ≤ l → l < m → (RV l).ownBlock ≠ some b) o

theorem Owning.below {w3 wr w' : World} {m k : Nat} {RV : Nat → Value} {os : List OwnV} {vO : Value} (h : Owning w3 wr m k RV os vO) (hb : Below wr.heap.size wr w') : Owning w3 w' m k RV os vO :=
  ⟨hb.os.trans h.o1, hb.tape.trans h.o2, hb.output.trans h.o3, Nat.le_trans h.size hb.size, fun b hb' hl => (hb.block b (Nat.lt_of_lt_of_le hb' h.size)).trans (h.fr b hb' hl), h.len, bel_own h.own hb, fun o ho => (h.all o ho).below hb⟩

theorem Owning.bel {w3 wr : World} {m k : Nat} {RV : Nat → Value} {os : List OwnV} {vO : Value} (h : Owning w3 wr m k RV os vO) (hk : k ≤ m) {B : Nat} (hB : B ≤ w3.heap.size) (hge : ∀ l, l < m → ∀ b, (RV l).ownBlock = some b → B ≤ b) : Below B w3 wr :=
  ⟨h.o1, h.o2, h.o3, h.size, fun b hb => h.fr b (by omega) (fun l hl hb' => by have := hge l (by omega) b hb'; omega)⟩

/-- one more of them. -/
theorem Owning.next {w3 w4 w5 w6 : World} {m k B : Nat} {RV : Nat → Value} {os : List OwnV} {vO vO' : Value} {o : OwnV} {ob ob2 : Obj} (h : Owning w3 w4 m k RV os vO) (hkm : k < m) (hB : ∀ i, i < m → ∀ b, (RV i).ownBlock = some b → B ≤ b ∧ b < w3.heap.size)
    (hap : ∀ i j, i < m → j < m → i ≠ j → ∀ b, (RV i).ownBlock = some b → (RV j).ownBlock ≠ some b) (ho : OwnAt w5 (fun b => (RV k).ownBlock = some b ∨ w4.heap.size ≤ b) o) (hg : w4.grownBy w5 (RV k).ownBlock)
    (hg6 : ((w5.alloc ob).alloc ob2).grownBy w6 vO.ownBlock) (hat : vO'.ownBlock = vO.ownBlock ∨ ∃ b, vO'.ownBlock = some b ∧ w5.heap.size ≤ b) (hown : w6.ownsRow w3.heap.size 36 5 vO' (k + 1) (ownCells (os ++ [o]))) :
    Owning w3 w6 m (k + 1) RV (os ++ [o]) vO' := by
  have s5 := hg.size
  have s6 := hg6.size
  simp at s6
  have hs := h.size
  have blkO : ∀ b, vO.ownBlock = some b → w3.heap.size ≤ b ∧ b < w4.heap.size := fun b hb => h.own.lt b hb
  have step : ∀ b, b < w4.heap.size → vO.ownBlock ≠ some b → (RV k).ownBlock ≠ some b → w6.heap[b]? = w4.heap[b]? := fun b hb h1 h2 => by
    rw [hg6.block b (by simp; omega) (Ne.symm h1), Below.heap_alloc _ _ _ (by simp; omega), Below.heap_alloc _ _ _ (by omega), hg.block b hb (Ne.symm h2)]
  have step5 : ∀ b, b < w5.heap.size → vO.ownBlock ≠ some b → w6.heap[b]? = w5.heap[b]? := fun b hb h1 => by
    rw [hg6.block b (by simp; omega) (Ne.symm h1), Below.heap_alloc _ _ _ (by simp; omega), Below.heap_alloc _ _ _ (by omega)]
  refine ⟨hg6.os.trans (hg.os.trans h.o1), hg6.tape.trans (hg.tape.trans h.o2), hg6.output.trans (hg.output.trans h.o3), by omega, fun b hb hl => ?_, by rw [List.length_append, h.len]; rfl, hown, fun x hx => ?_⟩
  · rw [step b (by omega) (fun e => by have := (blkO b e).1; omega) (hl k (by omega))]
    exact h.fr b hb (fun l hl' => hl l (by omega))
  · rcases List.mem_append.1 hx with hx | hx
    · refine (h.all x hx).keep (by omega) (fun b hb hK => ⟨fun e => ?_, fun l hl hlm => hK.2 l (by omega) hlm⟩) (fun b hb hK c hc => ?_)
      · rcases hat with hat | ⟨b', hat, hb'⟩
        · rw [hat] at e; exact hK.1 e
        · rw [hat] at e; cases e; omega
      · rw [World.cell?_of_block (w := w4) (a := ⟨b, c, none⟩) (step b hb hK.1 (hK.2 k (Nat.le_refl _) hkm))]; exact hc
    · rw [List.mem_singleton] at hx
      subst hx
      have hne : ∀ b, b < w5.heap.size → ((RV k).ownBlock = some b ∨ w4.heap.size ≤ b) → vO.ownBlock ≠ some b := fun b hb hK e => by
        have h1 := blkO b e
        rcases hK with hK | hK
        · have := (hB k hkm b hK).2; omega
        · omega
      refine ho.keep (by omega) (fun b hb hK => ⟨fun e => ?_, fun l hl hlm e => ?_⟩) (fun b hb hK c hc => ?_)
      · rcases hat with hat | ⟨b', hat, hb'⟩
        · rw [hat] at e; exact hne b hb hK e
        · rw [hat] at e; cases e; omega
      · rcases hK with hK | hK
        · exact hap k l hkm hlm (by omega) b hK e
        · have := (hB l hlm b e).2; omega
      · rw [World.cell?_of_block (w := w5) (a := ⟨b, c, none⟩) (step5 b hb (hne b hb hK))]; exact hc

end Go.Proofs.YtmndgoapkmhglaaGreat

/- Streamed, walked. -/
namespace Go.Proofs.YtmndgoapkmhglaaGreat
open Go.RowKit
attribute [local go_sem ↓] Go.wp_at_zero Go.wp_at_succ

set_option maxHeartbeats 8000000 in
set_option maxRecDepth 100000 in
theorem streamed_any (s : ByteArray) (hs : s.size ≤ maxLen) (w : World) (A : Option Addr) (C : Nat) (ins : List (List Int)) (AS : Nat → Option Addr) (CS : Nat → Nat) (hA : ArgL w A C ins AS CS) (n : Int) :
    Calls Tryz.prog 3 #[.string s, .slice A ins.length C, .int .i64 n] w fun e w' => e = .returned (.bool true) ∧ Below w.heap.size w w' := by
  obtain ⟨i0, hi0, hz0, hz1, hz2⟩ := info_parts Tryz.infoOwn
  have HA := hide hA
  have HP := hide (fun W v h => streams_any s hs W v ins h n)
  have HQ := hide (fun W v h => rStreams_any s W v ins h n)
  clear hA hs
  go_enter Tryz.func3, Tryz.ntmps3
  go_wp2_with fail
  refine (llists_any w A C ins AS CS HA.out).mono ?_
  rintro e w1 ⟨vo, vi, rfl, hv, hb1⟩
  obtain ⟨ao, lo, co, ai, li, ci, rfl, rfl⟩ := hv.shape
  have HV := hide hv
  have HB1 := hide hb1
  clear hv hb1
  obtain ⟨bx, hbx⟩ : ∃ bx, bx = w1.alloc (.cells #[.slice ao lo co, .slice ai li ci] 25) := ⟨_, rfl⟩
  have HBX : Hid (Below w1.heap.size w1 bx) := hide (by rw [hbx]; exact (Below.refl _ _).alloc (Nat.le_refl _) _)
  have HSZ : Hid (w1.heap.size < bx.heap.size) := hide (by rw [hbx]; simp)
  have HBC : Hid (bx.heap[w1.heap.size]? = some (.cells #[.slice ao lo co, .slice ai li ci] 25)) := hide (by rw [hbx]; exact heap_alloc_new w1 _)
  go_wp2_with fail
  rw [← hbx]
  refine (HP.out bx (.slice ao lo co) ((HV.out.ls (HA.out.below HB1.out)).below HBX.out)).mono ?_
  rintro e w2 ⟨vr, rfl, hq, hb2⟩
  have HB2 := hide hb2
  have HBw1 : Hid (Below w.heap.size w bx) := hide (HB1.out.trans (HBX.out.mono HB1.out.size))
  have HBw2 : Hid (Below w.heap.size w w2) := hide (HBw1.out.trans (hb2.mono HBw1.out.size))
  have HQQ := hide hq
  clear hb2 hq hbx HP
  go_wp2_with fail
  refine (HQ.out w2 (.slice A ins.length C) (HA.out.below HBw2.out).ls).mono ?_
  rintro e w3 ⟨vw, rfl, hr, hb3⟩
  obtain ⟨m, N, F, g, gw, RV, R, hboth⟩ := both_of HQQ.out hr hb3
  have HB3 := hide hb3
  have HBO := hide hboth
  clear hr hb3 HQ HQQ
  obtain ⟨ar, cr, rfl, har⟩ := hboth.vr
  obtain ⟨aw, cw, rfl, haw⟩ := hboth.vw
  have hm12 := hboth.few
  have hN200 := hboth.small
  clear hboth
  generalize strR s n = er
  go_wp2_with fail
  refine (num_of _ _).mono ?_
  rintro e4 w4 ⟨rfl, rfl⟩
  have HGB : Hid (∀ i, i < m → ∀ b, (RV i).ownBlock = some b → bx.heap.size ≤ b ∧ b < w3.heap.size) := hide (fun i hi b hb => ⟨((HBO.out.rows i hi).lt b hb).1, Nat.lt_of_lt_of_le (HBO.out.blk i hi b hb) HB3.out.size⟩)
  have HBX3 : Hid (bx.heap.size ≤ w3.heap.size) := hide (Nat.le_trans HB2.out.size HB3.out.size)
  go_wp2
  go_loopw [7, 13] (fun vO vk wr => ∃ (k : Nat) (os : List OwnV), k ≤ m ∧ vk = .int .i64 k ∧ Owning w3 wr m k RV os vO) (fun _ vk _ => m - (intOf vk).toNat)
  case atStart =>
    exact ⟨0, [], Nat.zero_le _, rfl, ⟨rfl, rfl, rfl, Nat.le_refl _, fun _ _ _ => rfl, rfl, World.ownsRow_nil _ _ _ _, fun o ho => by simp at ho⟩⟩
  case round =>
    obtain ⟨k, os, hk, rfl, hO⟩ := hrel
    obtain ⟨aO, cO, rfl, hshO⟩ := own_shape hO.own
    have HO := hide hO
    have hsz := hO.size
    by_cases hkm : k < m
    · have hag := har (by omega)
      subst hag
      have hawg := haw (by omega)
      subst hawg
      have hgl := HBO.out.gl (by omega)
      have h23 := HB3.out.size
      have HRK : Hid (∀ W, Below wr.heap.size wr W → W.cell? ⟨g, k, none⟩ = some (RV k) ∧ W.ownsRow bx.heap.size 3 1 (RV k) N (iCells (rowF F k N)) ∧ W.cell? ⟨gw, k, none⟩ = some (.slice (some ⟨R k, 0, none⟩) N N) ∧ RowAt W (.slice (some ⟨R k, 0, none⟩) N N) (rowF F k N)) := hide (fun W hW => by
        have hOW := HO.out.below hW
        obtain ⟨t1, t2⟩ := HBO.out.want W (fun b hb1 hb2 => hOW.fr b hb2 (fun l hl e => by have := HBO.out.blk l (by omega) b e; omega)) hOW.size k hkm
        refine ⟨?_, own_of (HBO.out.rows k hkm) (fun b hb => hOW.fr b (HGB.out k hkm b hb).2 (fun l hl e => HBO.out.apart l k (by omega) hkm (by omega) b e hb)), t1, t2⟩
        rw [World.cell?_of_block (w := w3) (a := ⟨g, k, none⟩) (hOW.fr g (by omega) (fun l hl => HBO.out.ne l (by omega)))]
        exact HBO.out.outer k hkm)
      obtain ⟨x1, x2, x3, x4⟩ := HRK.out wr (Below.refl _ _)
      obtain ⟨ak, ck, hrv, hshk⟩ := own_shape x2
      have H1 : Hid (∀ W, Below wr.heap.size wr W → Calls Tryz.prog 9 #[.slice ak N ck, .slice (some ⟨R k, 0, none⟩) N N] W fun e w' => e = .returned (.bool true) ∧ Below W.heap.size W w') := hide (fun W hW => by
        obtain ⟨_, y2, _, y4⟩ := HRK.out W hW
        have := lsame_any W (RV k) (.slice (some ⟨R k, 0, none⟩) N N) (rowF F k N) (rowF F k N) (own_row y2 (by omega) (rowF_len F k N)) y4
        rwa [show (rowF F k N == rowF F k N) = true by simp, hrv] at this)
      have H2 : Hid (∀ W, Below wr.heap.size wr W → Calls Tryz.prog 10 #[.slice ak N ck, .int .i64 (-77 - (k : Int))] W fun e w' => ∃ o : OwnV, e = .returned o.val ∧ OwnAt w' (fun b => (RV k).ownBlock = some b ∨ W.heap.size ≤ b) o ∧ W.grownBy w' (RV k).ownBlock) := hide (fun W hW => by
        obtain ⟨_, y2, _, _⟩ := HRK.out W hW
        have hl := rowF_len F k N
        have := lown_any W bx.heap.size (RV k) (rowF F k N) (-77 - (k : Int)) (by rw [hl]; exact y2) (by omega)
        rw [hrv] at this ⊢
        exact this.mono (fun e w' ⟨o, h1, _, _, _, h5, h6⟩ => ⟨o, h1, h5, h6⟩))
      rw [hrv] at x1
      have j3 : (0 : Int) ≤ (k : Int) := by omega
      have j4 : (k : Int) < (m : Int) := by omega
      have g1 : g < wr.heap.size := World.block_lt_of_cell? _ _ x1
      have g2 : gw < wr.heap.size := World.block_lt_of_cell? _ _ x3
      clear x2 x4 hO hshk
      go_wp2_with fail
      go_region_held3 (fun w' => w'.cell? ⟨g, k, none⟩ = some (.slice ak N ck) ∧ w'.cell? ⟨gw, k, none⟩ = some (.slice (some ⟨R k, 0, none⟩) N N)) (go_keep)
        ((go_at_call 9; refine (H1.out _ (Below.refl _ _).drew).mono ?_; rintro e wa ⟨rfl, hba⟩; have t1 := (hba.cell (p := ⟨g, k, none⟩) g1).trans x1; have t2 := (hba.cell (p := ⟨gw, k, none⟩) g2).trans x3))
      rename_i hHeld
      clear hHeld t1 t2
      have HBA : Hid (Below wr.heap.size wr wa) := hide ((Below.refl _ _).drew.trans hba)
      clear x1 x3 hba
      obtain ⟨x1, _, _, _⟩ := HRK.out wa HBA.out
      rw [hrv] at x1
      have j7 : (k : Int) ≤ 12 := by omega
      go_wp2_with fail
      refine (H2.out wa HBA.out).mono ?_
      rintro e wb ⟨o, rfl, hoat, hgb⟩
      have HOA := hide hoat
      have HGR := hide hgb
      have hsb := hgb.size
      have hsa := HBA.out.size
      have hownO := own_of (HO.out.below HBA.out).own (w' := wb) (fun b hb => hgb.block b ((HO.out.below HBA.out).own.lt b hb).2 (fun e => by have h1 := ((HO.out.below HBA.out).own.lt b hb).1; have h2 := (HGB.out k hkm b e.symm).2; omega))
      have HNX := hide (fun w6 vO' ob ob2 h1 h2 h3 => (HO.out.below HBA.out).next (B := bx.heap.size) (w5 := wb) (w6 := w6) (vO' := vO') (o := o) (ob := ob) (ob2 := ob2) hkm HGB.out HBO.out.apart hoat hgb h1 h2 h3)
      have HSN := hide (ownCells_snoc os o)
      obtain ⟨o1, o2, o3, o4, on, om⟩ := o
      obtain ⟨A1, C1, e1, _⟩ := hoat.a
      obtain ⟨A2, C2, e2, _⟩ := hoat.b
      obtain ⟨A3, C3, e3, _⟩ := hoat.c
      obtain ⟨A4, C4, e4, _⟩ := hoat.d
      simp only at e1 e2 e3 e4
      subst e1 e2 e3 e4
      clear hoat hgb x1
      go_wp2_with (at_builtin; refine wpList_append_lies _ rfl _ _ _ rfl w3.heap.size 36 i0 _ 5 104 Tryz.underlying23 hi0 hz0 hz1 hz2 rfl (by omega) _ k (ownCells os) rfl ((hownO.alloc _).alloc _) ⟨wb.heap.size + 1, 0, none⟩ 1 1 [.slice A1 on C1, .slice A2 (on + 1) C2, .slice A3 (on + 2) C3, .slice A4 (on + 6) C4, .int .i64 om] rfl rfl (World.news_of_block (cs := #[.slice A1 on C1, .slice A2 (on + 1) C2, .slice A3 (on + 2) C3, .slice A4 (on + 6) C4, .int .i64 om]) (t := 36) (fr := (0, 0)) (by have := heap_alloc_new (wb.alloc (.cells #[.slice A1 on C1, .slice A2 (on + 1) C2, .slice A3 (on + 2) C3, .slice A4 (on + 6) C4, .int .i64 om] 36)) (.cells #[.slice A1 on C1, .slice A2 (on + 1) C2, .slice A3 (on + 2) C3, .slice A4 (on + 6) C4, .int .i64 om] 36); simpa using this)) (by simp [Value.oneCell']) (by omega) (by unfold maxLen; omega) (by omega) (by simp; omega) (wb.heap.size + 2) (by simp) ?_; intro gg cap2 w6 hown6 hgrow hat hlt6)
      go_roundw
      case rel =>
        refine ⟨k + 1, _, by omega, by go_num, HNX.out w6 _ _ _ hgrow ?_ (by rw [HSN.out]; exact hown6)⟩
        rcases hat with hat | hat
        · exact .inl hat.symm
        · exact .inr ⟨gg, rfl, by omega⟩
      case measure => simp [intOf]; omega
    · have ek : k = m := by omega
      subst ek
      have z1 : ¬ (k : Int) < (k : Int) := by omega
      have hlen := hO.len
      have HSH := hide hshO
      have HX3 : Hid (Below bx.heap.size bx wr) := hide ((HB2.out.trans (HB3.out.mono HB2.out.size)).trans (hO.bel (Nat.le_refl _) HBX3.out (fun l hl b hb => (HGB.out l hl b hb).1)))
      have HX1 : Hid (Below w1.heap.size w1 wr) := hide (HBX.out.trans (HX3.out.mono HBX.out.size))
      have HBR : Hid (Below w.heap.size w wr) := hide (HB1.out.trans (HX1.out.mono HB1.out.size))
      clear hO hshO
      rename World => wq
      go_wp2
      go_loopw [16] (fun vj wx => ∃ j : Nat, j ≤ k ∧ vj = .int .i64 j ∧ Below wq.heap.size wq wx) (fun vj _ => k - (intOf vj).toNat)
      case atStart => exact ⟨0, Nat.zero_le _, rfl, by first | exact Below.refl _ _ | exact below_drewN (Below.refl _ _) _⟩
      case round =>
        obtain ⟨j, hj, rfl, hbj⟩ := hrel
        have HBJ := hide hbj
        by_cases hjk : j < k
        · obtain ⟨gO, rfl, _, hgO⟩ := HSH.out (by omega)
          have hjo : j < os.length := by omega
          obtain ⟨o, ho⟩ : ∃ o, o = os[j]'hjo := ⟨_, rfl⟩
          have hcl : ∀ i, i < 5 → wr.cell? ⟨gO, j * 5 + i, none⟩ = o.cells[i]? := fun i hi => by
            rw [(HO.out.below hbj).own.cellAt (j * 5 + i) (by omega)]
            have e := flat_get OwnV.cells 5 own5_len os j i hjo hi
            rw [← ho] at e
            exact e
          have c0 : wr.cell? ⟨gO, j * 5, none⟩ = some o.a := hcl 0 (by omega)
          have c1 : wr.cell? ⟨gO, j * 5 + 1, none⟩ = some o.b := hcl 1 (by omega)
          have c2 : wr.cell? ⟨gO, j * 5 + 2, none⟩ = some o.c := hcl 2 (by omega)
          have c3 : wr.cell? ⟨gO, j * 5 + 3, none⟩ = some o.d := hcl 3 (by omega)
          have c4 : wr.cell? ⟨gO, j * 5 + 4, none⟩ = some (.int .i64 o.m) := hcl 4 (by omega)
          have H1 := hide (fun W (hW : Below wq.heap.size wq W) => lholds_any W _ o ((HO.out.below hW).all o (by rw [ho]; exact List.getElem_mem hjo)))
          obtain ⟨A1, C1, e1, _⟩ := (HO.out.all o (by rw [ho]; exact List.getElem_mem hjo)).a
          obtain ⟨A2, C2, e2, _⟩ := (HO.out.all o (by rw [ho]; exact List.getElem_mem hjo)).b
          obtain ⟨A3, C3, e3, _⟩ := (HO.out.all o (by rw [ho]; exact List.getElem_mem hjo)).c
          obtain ⟨A4, C4, e4, _⟩ := (HO.out.all o (by rw [ho]; exact List.getElem_mem hjo)).d
          simp only [OwnV.val] at H1
          rw [e1, e2, e3, e4] at H1
          rw [e1] at c0
          rw [e2] at c1
          rw [e3] at c2
          rw [e4] at c3
          have j3 : (0 : Int) ≤ (j : Int) := by omega
          have j4 : (j : Int) < (k : Int) := by omega
          generalize o.m = om at c4 H1
          generalize o.n = on at c0 c1 c2 c3 H1
          clear hcl ho e1 e2 e3 e4
          go_wp2_with fail
          refine (H1.out wr hbj).mono ?_
          rintro e wc ⟨rfl, hbc⟩
          have HBC2 := hide (HBJ.out.trans (hbc.mono HBJ.out.size))
          clear hbc hbj c0 c1 c2 c3 c4 H1
          go_wp2
          go_roundw
          case rel => exact ⟨j + 1, by omega, by go_num, by first | exact HBC2.out | exact below_drewN HBC2.out _⟩
          case measure => simp [intOf]; omega
        · have ej : j = k := by omega
          subst ej
          have z2 : ¬ (j : Int) < (j : Int) := by omega
          have HXJ1 : Hid (Below w1.heap.size w1 wr) := hide (HX1.out.trans (hbj.mono HX1.out.size))
          have HXJ : Hid (Below w.heap.size w wr) := hide (HBR.out.trans (hbj.mono HBR.out.size))
          have hbn : wr.heap[w1.heap.size]? = some (.cells #[.slice ao lo co, .slice ai li ci] 25) := ((HX3.out.trans (hbj.mono HX3.out.size)).block w1.heap.size HSZ.out).trans HBC.out
          have c0 := cell_of_row wr w1.heap.size 0 _ _ _ hbn
          have c1 := cell_of_row wr w1.heap.size 1 _ _ _ hbn
          have HST := hide (lstill_any wr w.heap.size A C ins AS CS (.slice ao lo co) (.slice ai li ci) (HA.out.below HXJ.out) (HV.out.below HXJ1.out))
          clear hbn hbj
          go_wp2_with fail
          refine HST.out.mono ?_
          rintro e wc ⟨rfl, hbc⟩
          have HBC2 := hide (HXJ.out.trans (hbc.mono HXJ.out.size))
          clear hbc c0 c1 HST
          go_wp2
          go_ret
          exact ⟨rfl, by first | exact HBC2.out | exact below_drewN HBC2.out _⟩

end Go.Proofs.YtmndgoapkmhglaaGreat
