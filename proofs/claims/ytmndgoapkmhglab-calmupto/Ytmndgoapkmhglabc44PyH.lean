import Derived.Deep.RegionHeld3
import Derived.Test.Ytmndgoapkmhglabc29JudK
import Derived.Test.Ytmndgoapkmhglabc34AcB
import Derived.Test.Ytmndgoapkmhglabc43PyG
namespace Go.Proofs.Ytmndgoapkmhglab
open Go.RowKit
attribute [local go_sem ↓] Go.wp_at_zero Go.wp_at_succ
theorem Try.infoWire : (Try.prog.info? 141).map (fun i => (i.zero, i.size, i.bytes)) = some (some (.agg #[.int .i64 0, .int .i64 0, .bool false, .bool false, .int .i64 0, .int .i64 0]), 6, 40) := by kernel_rfl
theorem Try.infoEvent : (Try.prog.info? 41).map (fun i => (i.zero, i.size, i.bytes)) = some (some (.agg #[.int .i64 0, .int .i64 0, .int .i64 0, .int .i64 0, .slice none 0 0, .slice none 0 0]), 6, 80) := by kernel_rfl
def wireCells (es : List Dc) (l : List Rt) : List Value := l.flatMap fun r => [.int .i64 (((es.map Dc.place).getD r.src 0 : Nat) : Int), .int .i64 (r.dst : Int), .bool r.late, .bool false, .int .i64 0, .int .i64 0]
theorem wireCells_snoc (es : List Dc) (l : List Rt) (r : Rt) : wireCells es (l ++ [r]) = wireCells es l ++ [.int .i64 (((es.map Dc.place).getD r.src 0 : Nat) : Int), .int .i64 (r.dst : Int), .bool r.late, .bool false, .int .i64 0, .int .i64 0] := by simp [wireCells]
def SceneAt (w : World) (b : Nat) (vE vV vW : Value) : Prop := w.rowIs b 139 11 (scF vE vV vW (fun _ => 0) (fun _ => false))
theorem SceneAt.set {w : World} {b : Nat} {vE vV vW : Value} (h : SceneAt w b vE vV vW) (v : Value) : SceneAt (w.setCell ⟨b, 2, none⟩ v) b vE vV v := (World.rowIs.set h 2 v).congr (fun i _ => by
  match i with
  | 0 => rfl
  | 1 => rfl
  | 2 => rfl
  | i + 3 => rfl)
theorem SceneAt.setV {w : World} {b : Nat} {vE vV vW : Value} (h : SceneAt w b vE vV vW) (v : Value) : SceneAt (w.setCell ⟨b, 1, none⟩ v) b vE v vW := (World.rowIs.set h 1 v).congr (fun i _ => by
  match i with
  | 0 => rfl
  | 1 => rfl
  | 2 => rfl
  | i + 3 => rfl)
theorem SceneAt.new (w : World) (vE : Value) : SceneAt (w.alloc (.cells #[vE, .slice none 0 0, .slice none 0 0, .int .i64 0, .bool false, .int .i64 0, .bool false, .int .i64 0, .bool false, .int .i64 0, .bool false] 139)) w.heap.size vE (.slice none 0 0) (.slice none 0 0) :=
  World.rowIs_alloc w _ _ _ (fun i hi => by
    have : i < 11 := hi
    have : i = 0 ∨ i = 1 ∨ i = 2 ∨ i = 3 ∨ i = 4 ∨ i = 5 ∨ i = 6 ∨ i = 7 ∨ i = 8 ∨ i = 9 ∨ i = 10 := by omega
    rcases this with rfl | rfl | rfl | rfl | rfl | rfl | rfl | rfl | rfl | rfl | rfl <;> rfl)
theorem wires_of {w : World} {B g cW : Nat} {es : List Dc} {ls : List Rt} (h : w.ownsRow B 141 6 (.slice (some ⟨g, 0, none⟩) ls.length cW) ls.length (wireCells es ls)) : Wires w g ls.length (wireP (netD es ls) []) := by
  rcases h.2 with ⟨e, _⟩ | ⟨g', cap, cur, e, _, hc, hcap, _, hsz, hx⟩
  · cases e
  · cases e
    refine ⟨cur.size, fun i => (cur[i]?).getD (.int .i64 0), ⟨cur, hc, rfl, fun i hi => by simp [hi]⟩, fun l hl j hj => ?_⟩
    have hlt : l * 6 + j < ls.length * 6 := by omega
    have hcell : cur[l * 6 + j]? = some ((wireP (netD es ls) [] l).cell j) := by
      have h1 : (wireCells es ls)[l * 6 + j]? = some ((wireP (netD es ls) [] l).cell j) := by
        unfold wireCells
        rw [flat_get _ 6 (fun _ => rfl) ls l j hl hj, wire_start es ls hl]
        have : j = 0 ∨ j = 1 ∨ j = 2 ∨ j = 3 ∨ j = 4 ∨ j = 5 := by omega
        rcases this with rfl | rfl | rfl | rfl | rfl | rfl <;> rfl
      rw [← hx, List.getElem?_take, if_pos (by omega), Array.getElem?_toList] at h1
      exact h1
    refine ⟨(Array.getElem?_eq_some_iff.1 hcell).1, ?_⟩
    show (cur[l * 6 + j]?).getD (.int .i64 0) = _
    rw [hcell]
    rfl
theorem EvI.below {w w' : World} {B0 ge m : Nat} {EF : Nat → EvF} {i : Nat} {TV VV : Nat → Value} (h : EvI w B0 ge m EF i TV VV) (hb : Below w.heap.size w w') : EvI w' B0 ge m EF i TV VV := by
  obtain ⟨f, h1, h2⟩ := h.row
  exact ⟨⟨f, h1.of_block (hb.block _ h1.lt), h2⟩, fun j hj => own_blk (h.took j hj) (fun k hk => hb.block k ((h.took j hj).lt k hk).2), fun j hj => own_blk (h.vals j hj) (fun k hk => hb.block k ((h.vals j hj).lt k hk).2), h.apT, h.apV, h.apTV⟩
theorem EvI.start (w : World) (m : Nat) (cs : Array Value) (hc : cs.size = m * 6) (EF : Nat → EvF) (B0 : Nat) : EvI (w.alloc (.cells cs 41)) B0 w.heap.size m EF 0 (fun _ => .slice none 0 0) (fun _ => .slice none 0 0) := by
  refine ⟨⟨fun i => (cs[i]?).getD (.int .i64 0), ?_, fun j hj => by omega⟩, fun j hj => by omega, fun j hj => by omega, fun _ _ h => by omega, fun _ _ h => by omega, fun _ _ h => by omega⟩
  have := World.rowIs_alloc w cs 41 (fun i => (cs[i]?).getD (.int .i64 0)) (fun i hi => by simp [hi])
  rw [hc] at this
  exact this
theorem ScD.weak {w : World} {X Y : Nat → Prop} {es : List Dc} {aE : Option Addr} {cE : Nat} {aV : Option Addr} {cV gv nV : Nat} {R : Nat → Nat} {S : Nat → Nat → Int} (h : ScD w X es aE cE aV cV gv nV R S) (hi : ∀ k, X k → Y k) : ScD w Y es aE cE aV cV gv nV R S :=
  ⟨h.eqs, h.mat, h.av, h.ae, fun k hk => hi _ (h.xe k hk), fun hp => hi _ (h.xv hp), fun i hj => hi _ (h.xr i hj), h.few⟩
set_option maxHeartbeats 8000000 in
set_option maxRecDepth 100000 in
theorem pplay_any (w : World) (q : Nat) (ds : List Dc) (ns : List Nd) (vd vn : Value) (h : ProgAt w q ds ns vd vn) (hwf : ProgWf ds ns) (hL : ∀ r ∈ linksF ds ns, r.src < (eqsF ds).length ∧ r.dst < 4) (hll : (linksF ds ns).length ≤ 6100) (vX vS : Value) (sc : List OpF) (hSc : OpsAt w vS sc) (h400 : sc.length ≤ 400) (S : Nat → Nat → Int)
    (hSO : ∀ W, Below w.heap.size w W → Calls Try.prog 39 #[.pointer (some ⟨q, 0, none⟩), vX, .int .i64 ((sc.length : Int) / 2)] W fun e w' => ∃ v, e = .returned v ∧ Outs W.heap.size w' v (eqsF ds).length (sc.length / 2) S ∧ Below W.heap.size W w')
    (hpl : ∀ i, i < sc.length → ∃ p : Nat, p < 4 ∧ (actF sc i).k = (p : Int)) (ht : ∀ i, i < sc.length → (0 ≤ (actF sc i).a ∧ (actF sc i).a ≤ 1099511627776) ∧ (0 ≤ (actF sc i).b ∧ (actF sc i).b ≤ 1099511627776) ∧ (0 ≤ (actF sc i).c ∧ (actF sc i).c ≤ 1099511627776)) (hAO : ActsOk sc) (hAp : Apart (netD (eqsF ds) (linksF ds ns))) (V : Int → Nat → List Int) (hV : ∀ (p m : Nat), V (p : Int) m = valsP (eqsF ds) p (fun i => S i m) (eqsF ds).length) :
    Calls Try.prog 48 #[.pointer (some ⟨q, 0, none⟩), vX, vS] w fun e w' => ∃ v TV VV, e = .returned v ∧ EvsOwn w.heap.size w' v ((runG (netD (eqsF ds) (linksF ds ns)) V [] sc).map Prod.snd) TV VV ∧ Below w.heap.size w w' := by
  have hdl := hwf.dl
  have hel : (eqsF ds).length ≤ 1501 := Nat.le_trans (List.length_filter_le _ _) hdl
  obtain ⟨i0, hi0, hz0, hz1, hz2⟩ := info_parts Try.infoWire
  obtain ⟨i5, hi5, hy0, hy1, hy2⟩ := info_parts Try.infoEvent
  have HP := hide h
  have HWF := hide hwf
  have HL := hide hL
  have HSO := hide hSO
  have HSC := hide hSc
  have HPL := hide hpl
  have HT := hide ht
  have HAO := hide hAO
  have HAP := hide hAp
  have HV := hide hV
  obtain ⟨AS, CS, rfl, hmS, hcS⟩ := hSc
  have HCS := hide hcS
  clear h hwf hL hSO hpl ht hAO hAp hV hcS
  have hquo : Int.tdiv (sc.length : Int) 2 = (sc.length : Int) / 2 := by rw [Int.tdiv_eq_ediv_of_nonneg (by omega)]
  go_enter Try.func48, Try.ntmps48
  go_wp2_with fail
  refine (equations_any w q ds ns vd vn HP.out hdl).mono ?_
  rintro e w1 ⟨vE, rfl, hE1, hb1⟩
  obtain ⟨aE, cE, rfl, hshE⟩ := own_shape hE1
  obtain ⟨w2, hw2⟩ : ∃ w2, w2 = w1.alloc (.cells #[.slice aE (eqsF ds).length cE, .slice none 0 0, .slice none 0 0, .int .i64 0, .bool false, .int .i64 0, .bool false, .int .i64 0, .bool false, .int .i64 0, .bool false] 139) := ⟨_, rfl⟩
  have hb2 : Below w.heap.size w w2 := by rw [hw2]; exact hb1.alloc hb1.size _
  have hz2' : w2.heap.size = w1.heap.size + 1 := by rw [hw2]; simp
  have hSc2 : SceneAt w2 w1.heap.size (.slice aE (eqsF ds).length cE) (.slice none 0 0) (.slice none 0 0) := by rw [hw2]; exact SceneAt.new w1 _
  have hE2 : w2.ownsRow w.heap.size 126 7 (.slice aE (eqsF ds).length cE) (eqsF ds).length (dcCells (eqsF ds)) := by rw [hw2]; exact hE1.alloc _
  have hEl : ∀ k, (Value.slice aE (eqsF ds).length cE).ownBlock = some k → w.heap.size ≤ k ∧ k < w1.heap.size := fun k hk => hE1.lt k hk
  have HSO2 := hide (HSO.out w2 hb2)
  have HEL := hide hEl
  have HSHE := hide hshE
  have HSC2 := hide hSc2
  have HE2 := hide hE2
  have HB2 := hide hb2
  have hs1 := hb1.size
  rw [hw2] at HSO2
  have HW2 := hide hw2
  clear hE1 hb1 hEl hshE hSc2 hE2 hb2 hw2
  go_wp2_with fail
  refine HSO2.out.mono ?_
  rw [← HW2.out]
  rintro e w3 ⟨vV, rfl, hO3, hb3⟩
  obtain ⟨aV, gv, cV, R, rfl, hav, hmat3, hRge, hgvge⟩ := hO3.mat
  have hs3 := hb3.size
  have hSc3 : SceneAt w3 w1.heap.size (.slice aE (eqsF ds).length cE) (.slice none 0 0) (.slice none 0 0) := HSC2.out.of_block (hb3.block _ (by omega))
  have c1 : w3.cell? ⟨w1.heap.size, 1, none⟩ = some (.slice none 0 0) := World.rowIs.cell hSc3 (i := 1) (by omega)
  have f1 := World.rowIs.frozen hSc3 1
  obtain ⟨w4, hw4⟩ : ∃ w4, w4 = w3.setCell ⟨w1.heap.size, 1, none⟩ (.slice aV (eqsF ds).length cV) := ⟨_, rfl⟩
  have hsz4 : w4.heap.size = w3.heap.size := by rw [hw4]; simp
  have hSc4 : SceneAt w4 w1.heap.size (.slice aE (eqsF ds).length cE) (.slice aV (eqsF ds).length cV) (.slice none 0 0) := by rw [hw4]; exact hSc3.setV _
  have hb4 : Below w.heap.size w w4 := by rw [hw4]; exact (HB2.out.trans (hb3.mono HB2.out.size)).setCell (by show w.heap.size ≤ w1.heap.size; omega) _
  have hmat4 : MatI w4 gv (eqsF ds).length (sc.length / 2) R S := by
    rw [hw4]
    refine hmat3.keep (heap_setCell_other w3 ⟨w1.heap.size, 1, none⟩ gv _ (by show gv ≠ w1.heap.size; omega)) (fun i hi => heap_setCell_other w3 ⟨w1.heap.size, 1, none⟩ (R i) _ (by have := hRge i hi; show R i ≠ w1.heap.size; omega))
  have hE4 : w4.ownsRow w.heap.size 126 7 (.slice aE (eqsF ds).length cE) (eqsF ds).length (dcCells (eqsF ds)) := own_blk HE2.out (fun k hk => by
    have := HEL.out k hk
    rw [hw4, heap_setCell_other w3 ⟨w1.heap.size, 1, none⟩ k _ (by show k ≠ w1.heap.size; omega), hb3.block k (by omega)])
  have HLO := hide (linksOf_any w4 q ds ns vd vn (HP.out.below hb4) HWF.out)
  have HSC4 := hide hSc4
  have HB4 := hide hb4
  have HM4 := hide hmat4
  have HE4 := hide hE4
  have HAV := hide hav
  have HRG := hide hRge
  rw [hw4] at HLO
  have HW4 := hide hw4
  clear hO3 hb3 hav hmat3 hRge hSc3 hw4 hSc4 hb4 hmat4 hE4
  go_wp2_with fail
  refine HLO.out.mono ?_
  rw [← HW4.out]
  rintro e w5 ⟨vl, rfl, hl5, hb5⟩
  have hs5 := hb5.size
  have hlb : ∀ k, vl.ownBlock = some k → w4.heap.size ≤ k ∧ k < w5.heap.size := fun k hk => hl5.lt k hk
  obtain ⟨al, cl, rfl, hshl⟩ := own_shape hl5
  have hSc5 : SceneAt w5 w1.heap.size (.slice aE (eqsF ds).length cE) (.slice aV (eqsF ds).length cV) (.slice none 0 0) := HSC4.out.of_block (hb5.block _ (by omega))
  have HSC5 := hide hSc5
  have HL5 := hide hl5
  have HLB := hide hlb
  have HSHL := hide hshl
  have HB5 := hide hb5
  have HEP : Hid (∀ d ∈ eqsF ds, d.place < 4) := hide (fun d hd => HWF.out.place d (List.mem_filter.1 hd).1)
  clear hl5 hlb hshl hSc5 hb5 c1 f1
  obtain ⟨es, hes⟩ : ∃ es, es = eqsF ds := ⟨_, rfl⟩
  obtain ⟨ls, hls⟩ : ∃ ls, ls = linksF ds ns := ⟨_, rfl⟩
  rw [← hes] at HE4 HM4 HAV HRG HSC5 HEL HSHE HEP hel HV HAP HL
  rw [← hls] at HL5 HSHL HL hll HAP
  have HES := hide hes
  have HLS := hide hls
  rw [← hes, ← hls]
  clear hes hls
  go_wp2
  go_loopw [26] (fun vi wr => ∃ (k : Nat) (vW : Value), k ≤ ls.length ∧ vi = .int .i64 k ∧ (k = 0 → vW = .slice none 0 0) ∧ SceneAt wr w1.heap.size (.slice aE es.length cE) (.slice aV es.length cV) vW ∧ wr.ownsRow w5.heap.size 141 6 vW k (wireCells es (ls.take k)) ∧ Fr (fun j => j < w5.heap.size ∧ j ≠ w1.heap.size) w5 wr) (fun vi _ => ls.length - (intOf vi).toNat)
  case atStart => exact ⟨0, _, Nat.zero_le _, rfl, fun _ => rfl, HSC5.out, World.ownsRow_nil _ _ _ _, Fr.refl _ _⟩
  case round =>
    obtain ⟨k, vW, hk, rfl, hk0, hsc, hown, hfr⟩ := hrel
    have HK0 := hide hk0
    clear hk0
    have hszr := hfr.size
    by_cases hlt : k < ls.length
    · obtain ⟨gl, rfl, _, hgl⟩ := HSHL.out (by omega)
      have hlk := HLB.out gl rfl
      have hol := own_same HL5.out (fun g hg => hfr.block g (by have := HLB.out g hg; omega))
      obtain ⟨r, hr⟩ : ∃ r, r = ls[k]'hlt := ⟨_, rfl⟩
      obtain ⟨x0, x1, x2⟩ := rtAt_cells hol hlt r hr
      obtain ⟨hr1, hr2⟩ := HL.out r (by rw [hr]; exact List.getElem_mem hlt)
      obtain ⟨ge, rfl, hge1, hge⟩ := HSHE.out (by omega)
      obtain ⟨d, hd⟩ : ∃ d, d = es[r.src]'hr1 := ⟨_, rfl⟩
      have hoe := own_zero (own_same HE4.out (fun g hg => (hfr.block g (by have := HEL.out g hg; omega)).trans (HB5.out.block g (by have := HEL.out g hg; omega))))
      have y4 := dcAt_cells hoe hr1 4 (by omega)
      rw [← hd] at y4
      simp [Dc.cells] at y4
      have hdp : d.place = (es.map Dc.place).getD r.src 0 := by
        rw [List.getD_eq_getElem?_getD, List.getElem?_map, List.getElem?_eq_getElem hr1, hd]; rfl
      obtain ⟨wa, hwa⟩ : ∃ wa, wa = wr.alloc (.cells #[.int .i64 (r.src : Int), .int .i64 (r.dst : Int), .bool r.late] 89) := ⟨_, rfl⟩
      have hsa : wa.heap.size = wr.heap.size + 1 := by rw [hwa]; simp
      have hba : Below wr.heap.size wr wa := by rw [hwa]; exact (Below.refl _ _).alloc (Nat.le_refl _) _
      have hsca : SceneAt wa w1.heap.size (.slice (some ⟨ge, 0, none⟩) es.length cE) (.slice aV es.length cV) vW := World.rowIs.of_block hsc (hba.block _ (World.rowIs.lt hsc))
      have hblk : wa.heap[wr.heap.size]? = some (.cells #[.int .i64 (r.src : Int), .int .i64 (r.dst : Int), .bool r.late] 89) := by rw [hwa]; exact heap_alloc_new wr _
      have d0 : wa.cell? ⟨wr.heap.size, 0, none⟩ = some (.int .i64 (r.src : Int)) := by rw [cell_of_row wa _ 0 _ _ _ hblk]; rfl
      have d1 : wa.cell? ⟨wr.heap.size, 1, none⟩ = some (.int .i64 (r.dst : Int)) := by rw [cell_of_row wa _ 1 _ _ _ hblk]; rfl
      have d2 : wa.cell? ⟨wr.heap.size, 2, none⟩ = some (.bool r.late) := by rw [cell_of_row wa _ 2 _ _ _ hblk]; rfl
      have c0 : wa.cell? ⟨w1.heap.size, 0, none⟩ = some (.slice (some ⟨ge, 0, none⟩) es.length cE) := World.rowIs.cell hsca (i := 0) (by omega)
      have c2 : wa.cell? ⟨w1.heap.size, 2, none⟩ = some vW := World.rowIs.cell hsca (i := 2) (by omega)
      have y4' : wa.cell? ⟨ge, r.src * 7 + 4, none⟩ = some (.int .i64 (d.place : Int)) := (hba.cell (p := ⟨ge, r.src * 7 + 4, none⟩) (by show ge < wr.heap.size; omega)).trans y4
      have ca : ∀ u, (wa.alloc u).cell? ⟨w1.heap.size, 2, none⟩ = some vW := fun u => by rw [World.cell?_alloc_past _ _ _ (World.rowIs.lt hsca)]; exact c2
      have fa : ∀ u, (wa.alloc u).frozen? ⟨w1.heap.size, 2, none⟩ = false := fun u => by rw [World.frozen?_alloc_past _ _ _ (World.rowIs.lt hsca)]; exact World.rowIs.frozen hsca 2
      have f2 := World.rowIs.frozen hsca 2
      have nbv : vW.ownBlock ≠ some w1.heap.size := fun e => by have := ownBlock_ge hown _ e; omega
      have howa : wa.ownsRow w5.heap.size 141 6 vW k (wireCells es (ls.take k)) := by rw [hwa]; exact hown.alloc _
      have j1 : (0 : Int) ≤ (k : Int) := by omega
      have j2 : (k : Int) < (ls.length : Int) := by omega
      have i1 : (0 : Int) ≤ (r.src : Int) := by omega
      have i2 : (r.src : Int) < (es.length : Int) := by omega
      have lb := World.rowIs.lt hsca
      have HTK : Hid (wireCells es (ls.take (k + 1)) = wireCells es (ls.take k) ++ [.int .i64 (d.place : Int), .int .i64 (r.dst : Int), .bool r.late, .bool false, .int .i64 0, .int .i64 0]) := hide (by rw [List.take_succ_eq_append_getElem hlt, wireCells_snoc, ← hr, ← hdp])
      have HSCA := hide hsca
      have HFA : Hid (Fr (fun j => j < w5.heap.size ∧ j ≠ w1.heap.size) w5 wa) := hide (hfr.trans (Fr.of_below hba (fun j hj => by omega)))
      have c0a : ∀ u, (wa.alloc u).cell? ⟨w1.heap.size, 0, none⟩ = some (.slice (some ⟨ge, 0, none⟩) es.length cE) := fun u => (World.cell?_alloc_past _ _ _ lb).trans c0
      have d0a : ∀ u, (wa.alloc u).cell? ⟨wr.heap.size, 0, none⟩ = some (.int .i64 (r.src : Int)) := fun u => (World.cell?_alloc_past _ _ _ (by show wr.heap.size < wa.heap.size; omega)).trans d0
      have d1a : ∀ u, (wa.alloc u).cell? ⟨wr.heap.size, 1, none⟩ = some (.int .i64 (r.dst : Int)) := fun u => (World.cell?_alloc_past _ _ _ (by show wr.heap.size < wa.heap.size; omega)).trans d1
      have d2a : ∀ u, (wa.alloc u).cell? ⟨wr.heap.size, 2, none⟩ = some (.bool r.late) := fun u => (World.cell?_alloc_past _ _ _ (by show wr.heap.size < wa.heap.size; omega)).trans d2
      have y4a : ∀ u, (wa.alloc u).cell? ⟨ge, r.src * 7 + 4, none⟩ = some (.int .i64 (d.place : Int)) := fun u => (World.cell?_alloc_past _ _ _ (by show ge < wa.heap.size; omega)).trans y4'
      have ne1 : some w1.heap.size ≠ vW.ownBlock := fun e => by have := ownBlock_ge hown _ e.symm; omega
      have ne2 : some wr.heap.size ≠ vW.ownBlock := fun e => by have := (hown.lt _ e.symm).2; omega
      have ne3 : some ge ≠ vW.ownBlock := fun e => by have := ownBlock_ge hown _ e.symm; omega
      have m1 : w1.heap.size ≠ wr.heap.size := by omega
      have m2 : w1.heap.size ≠ ge := by omega
      have hsal : wr.heap.size < wa.heap.size := by omega
      have HSA := hide hsa
      clear hol hr hoe hd hdp y4 hsc hown hfr hsca hblk hba hsa
      generalize wireCells es (ls.take k) = WC at *
      go_wp2_with fail
      rw [← hwa]
      clear hwa
      refine wp_region_held_drew (S := (fun w' => w'.cell? ⟨w1.heap.size, 0, none⟩ = some (.slice (some ⟨ge, 0, none⟩) es.length cE) ∧ w'.cell? ⟨wr.heap.size, 0, none⟩ = some (.int .i64 (r.src : Int)) ∧ w'.cell? ⟨wr.heap.size, 1, none⟩ = some (.int .i64 (r.dst : Int)) ∧ w'.cell? ⟨wr.heap.size, 2, none⟩ = some (.bool r.late) ∧ w'.cell? ⟨ge, r.src * 7 + 4, none⟩ = some (.int .i64 (d.place : Int)))) (by kernel_rfl) ?_ (fun hHeld => ?_)
      · exact ⟨c0, d0, d1, d2, y4'⟩
      refine wpAnyH_take (i := 0) (v := ?_) rfl (by kernel_rfl) (by kernel_rfl) (by kernel_rfl) (fun _ _ _ h => h) (Or.inl ⟨by rfl, ?_⟩) hHeld ?_
      rotate_left
      · intro w hSw
        (try dsimp only at hSw)
        go_simp
        (try with_reducible rfl)
      simp only [Act.put, List.setIfInBounds_toArray]
      refine wpAnyH_take (i := 2) (v := ?_) rfl (by kernel_rfl) (by kernel_rfl) (by kernel_rfl) (fun _ _ _ h => h) (Or.inl ⟨by rfl, ?_⟩) hHeld ?_
      rotate_left
      · intro w hSw
        (try dsimp only at hSw)
        go_simp
        (try with_reducible rfl)
      simp only [Act.put]
      refine wpAnyH_take (i := 3) (v := ?_) rfl (by kernel_rfl) (by kernel_rfl) (by kernel_rfl) (fun _ _ _ h => h) (Or.inl ⟨by rfl, ?_⟩) hHeld ?_
      rotate_left
      · intro w hSw
        (try dsimp only at hSw)
        go_simp
        (try with_reducible rfl)
      simp only [Act.put]
      refine wpAnyH_take (i := 4) (v := ?_) rfl (by kernel_rfl) (by kernel_rfl) (by kernel_rfl) (fun _ _ _ h => h) (Or.inl ⟨by rfl, ?_⟩) hHeld ?_
      rotate_left
      · intro w hSw
        (try dsimp only at hSw)
        go_simp
        (try with_reducible rfl)
      simp only [Act.put]
      refine wpAnyH_take (i := 5) (v := ?_) rfl (by kernel_rfl) (by kernel_rfl) (by kernel_rfl) (fun _ _ _ h => h) (Or.inl ⟨by rfl, ?_⟩) hHeld ?_
      rotate_left
      · intro w hSw
        (try dsimp only at hSw)
        go_simp
        (try with_reducible rfl)
      simp only [Act.put]
      refine wpAnyH_take (i := 6) (v := ?_) rfl (by kernel_rfl) (by kernel_rfl) (by kernel_rfl) (fun _ _ _ h => h) (Or.inl ⟨by rfl, ?_⟩) hHeld ?_
      rotate_left
      · intro w hSw
        (try dsimp only at hSw)
        go_simp
        (try with_reducible rfl)
      simp only [Act.put]
      refine wpAnyH_take (i := 7) (v := ?_) rfl (by kernel_rfl) (by kernel_rfl) (by kernel_rfl) (fun _ _ _ h => h) (Or.inl ⟨by rfl, ?_⟩) hHeld ?_
      rotate_left
      · intro w hSw
        (try dsimp only at hSw)
        go_simp
        (try with_reducible rfl)
      simp only [Act.put]
      refine wpAnyH_take (i := 8) (v := ?_) rfl (by kernel_rfl) (by kernel_rfl) (by kernel_rfl) (fun _ _ _ h => h) (Or.inl ⟨by rfl, ?_⟩) hHeld ?_
      rotate_left
      · intro w hSw
        (try dsimp only at hSw)
        go_simp
        (try with_reducible rfl)
      simp only [Act.put]
      refine wpAnyH_take (i := 9) (v := ?_) rfl (by kernel_rfl) (by kernel_rfl) (by kernel_rfl) (fun _ _ _ h => h) (Or.inl ⟨by rfl, ?_⟩) hHeld ?_
      rotate_left
      · intro w hSw
        (try dsimp only at hSw)
        go_simp
        (try with_reducible rfl)
      simp only [Act.put]
      refine wpAnyH_take (i := 10) (v := ?_) rfl (by kernel_rfl) (by kernel_rfl) (by kernel_rfl) (fun _ _ _ h => h) (Or.inl ⟨by rfl, ?_⟩) hHeld ?_
      rotate_left
      · intro w hSw
        (try dsimp only at hSw)
        go_simp
        (try with_reducible rfl)
      simp only [Act.put]
      refine wpAnyH_take (i := 11) (v := ?_) rfl (by kernel_rfl) (by kernel_rfl) (by kernel_rfl) (fun _ _ _ h => h) (Or.inl ⟨by rfl, ?_⟩) hHeld ?_
      rotate_left
      · intro w hSw
        (try dsimp only at hSw)
        go_simp
        (try with_reducible rfl)
      simp only [Act.put]
      refine wpAnyH_take (i := 12) (v := ?_) rfl (by kernel_rfl) (by kernel_rfl) (by kernel_rfl) (fun _ _ _ h => h) (Or.inl ⟨by rfl, ?_⟩) hHeld ?_
      rotate_left
      · intro w hSw
        (try dsimp only at hSw)
        go_simp
        (try with_reducible rfl)
      simp only [Act.put]
      refine wpAnyH_take (i := 13) (v := ?_) rfl (by kernel_rfl) (by kernel_rfl) (by kernel_rfl) (fun _ _ _ h => h) (Or.inl ⟨by rfl, ?_⟩) hHeld ?_
      rotate_left
      · intro w hSw
        (try dsimp only at hSw)
        go_simp
        (try with_reducible rfl)
      simp only [Act.put]
      refine wpAnyH_ready (rs := [1, 14]) (by kernel_rfl) (by simp) ?_
      refine AllReadyH.cons rfl (fun K hK => ?_) (AllReadyH.cons rfl (fun K hK => ?_) AllReadyH.nil)
      · go_simp
        refine hK.out _ _ hHeld (fun _ => ?_)
        clear hK K
        refine wpAnyH_ready (rs := [14]) (by kernel_rfl) (by simp) ?_
        refine AllReadyH.cons rfl (fun K hK => ?_) AllReadyH.nil
        go_simp
        refine hK.out _ _ (⟨c0a _, d0a _, d1a _, d2a _, y4a _⟩) (fun _ => ?_)
        clear hK K
        refine wpAnyH_ready (rs := [15]) (by kernel_rfl) (by simp) ?_
        refine AllReadyH.cons rfl (fun K hK => ?_) AllReadyH.nil
        (refine step_append_lies _ (by rfl) _ _ _ (by rfl) w5.heap.size 141 i0 _ 6 40 Try.underlying134 hi0 hz0 hz1 hz2 rfl (by omega) vW k WC (by rfl) ((howa.alloc _).drew) ⟨wa.heap.size, 0, none⟩ 1 1 [.int .i64 (d.place : Int), .int .i64 (r.dst : Int), .bool r.late, .bool false, .int .i64 0, .int .i64 0] (by rfl) (by rfl) (World.news_of_block (cs := #[.int .i64 (d.place : Int), .int .i64 (r.dst : Int), .bool r.late, .bool false, .int .i64 0, .int .i64 0]) (t := 141) (fr := (0, 0)) (heap_alloc_new wa _)) (by simp [Value.oneCell']) (by omega) (by unfold maxLen; omega) (by omega) (by simp; omega) (wa.heap.size + 1) (by simp) ?_; intro gg cap2 w3' hown3 hgrow hat hlt3; have k4 := hgrow.cell (a := ⟨w1.heap.size, 2, none⟩) (ca _) ne1; have e4 := (hgrow.frozen_far ⟨w1.heap.size, 2, none⟩ (by simp; omega) ne1).trans (fa _); have z0 := hgrow.cell (a := ⟨w1.heap.size, 0, none⟩) (c0a _) ne1; have z0' : ∀ x, (w3'.setCell ⟨w1.heap.size, 2, none⟩ x).cell? ⟨w1.heap.size, 0, none⟩ = some (.slice (some ⟨ge, 0, none⟩) es.length cE) := fun x => (World.cell?_setCell_other _ _ _ _ (by simp)).trans z0; have z1 := hgrow.cell (a := ⟨wr.heap.size, 0, none⟩) (d0a _) ne2; have z2 := hgrow.cell (a := ⟨wr.heap.size, 1, none⟩) (d1a _) ne2; have z3 := hgrow.cell (a := ⟨wr.heap.size, 2, none⟩) (d2a _) ne2; have z4 := hgrow.cell (a := ⟨ge, r.src * 7 + 4, none⟩) (y4a _) ne3)
        refine hK.out _ _ (⟨z0, z1, z2, z3, z4⟩) (fun hHeld3 => ?_)
        clear hK K
        simp only [Act.put, List.setIfInBounds_toArray]
        refine wpAnyH_take (i := 16) (v := ?_) rfl (by kernel_rfl) (by kernel_rfl) (by kernel_rfl) (fun _ _ _ h => h) (Or.inl ⟨by rfl, ?_⟩) hHeld3 ?_
        rotate_left
        · intro w hSw
          (try dsimp only at hSw)
          go_simp
          (try with_reducible rfl)
        simp only [Act.put]
        refine wpAnyH_ready (rs := [17]) (by kernel_rfl) (by simp) ?_
        refine AllReadyH.cons rfl (fun K hK => ?_) AllReadyH.nil
        go_simp
        refine hK.out _ _ (⟨z0' _, (World.cell?_setCell_other _ _ _ _ (fun e => m1 (congrArg Addr.block e))).trans z1, (World.cell?_setCell_other _ _ _ _ (fun e => m1 (congrArg Addr.block e))).trans z2, (World.cell?_setCell_other _ _ _ _ (fun e => m1 (congrArg Addr.block e))).trans z3, (World.cell?_setCell_other _ _ _ _ (fun e => m2 (congrArg Addr.block e))).trans z4⟩) (fun _ => ?_)
        clear hK K
        refine wpAnyH_done (by kernel_rfl) ?_ _
        have hblkW : ∀ j, j < wa.heap.size → some j ≠ vW.ownBlock → w3'.heap[j]? = wa.heap[j]? := fun j h1 h2 => (hgrow.block j (by simp; omega) h2).trans (heap_alloc_old wa _ h1)
        have hgb : gg ≠ w1.heap.size := by
          rcases hat with hat | hat
          · intro e; exact nbv (by rw [hat, e])
          · omega
        have hszW : wa.heap.size ≤ w3'.heap.size := by have := hgrow.size; simp at this; omega
        have HS6 : Hid (SceneAt (w3'.setCell ⟨w1.heap.size, 2, none⟩ (.slice (some ⟨gg, 0, none⟩) (k + 1) cap2)) w1.heap.size (.slice (some ⟨ge, 0, none⟩) es.length cE) (.slice aV es.length cV) (.slice (some ⟨gg, 0, none⟩) (k + 1) cap2)) := hide (SceneAt.set (World.rowIs.of_block HSCA.out (hblkW _ lb ne1)) _)
        have HO6 : Hid ((w3'.setCell ⟨w1.heap.size, 2, none⟩ (.slice (some ⟨gg, 0, none⟩) (k + 1) cap2)).ownsRow w5.heap.size 141 6 (.slice (some ⟨gg, 0, none⟩) (k + 1) cap2) (k + 1) (wireCells es (ls.take (k + 1)))) := hide (by
          rw [HTK.out]
          exact own_blk hown3 (fun j hj => heap_setCell_other w3' ⟨w1.heap.size, 2, none⟩ j _ (by
            have e : gg = j := by simpa [Value.ownBlock] using hj
            show j ≠ w1.heap.size
            omega)))
        have HF6 : Hid (Fr (fun j => j < w5.heap.size ∧ j ≠ w1.heap.size) w5 (w3'.setCell ⟨w1.heap.size, 2, none⟩ (.slice (some ⟨gg, 0, none⟩) (k + 1) cap2))) := hide (by
          have hf : Fr (fun j => j < w5.heap.size ∧ j ≠ w1.heap.size) wa w3' := ⟨hgrow.os, hgrow.tape, hgrow.output, hszW, fun j hj => hblkW j (by omega) (fun e => by have := ownBlock_ge howa j e.symm; omega)⟩
          exact (HFA.out.trans hf).setCell (fun e => e.2 rfl) _)
        clear hblkW hgb hszW hown3 hgrow hat hlt3 k4 e4
        go_wp2
        go_roundw
        case rel => exact ⟨k + 1, _, by omega, by go_num, fun e => by omega, HS6.out, HO6.out, HF6.out⟩
        case measure => simp [intOf]; omega
      · go_simp
        refine hK.out _ _ (⟨c0a _, d0a _, d1a _, d2a _, y4a _⟩) (fun _ => ?_)
        clear hK K
        refine wpAnyH_ready (rs := [1]) (by kernel_rfl) (by simp) ?_
        refine AllReadyH.cons rfl (fun K hK => ?_) AllReadyH.nil
        go_simp
        refine hK.out _ _ (⟨c0a _, d0a _, d1a _, d2a _, y4a _⟩) (fun _ => ?_)
        clear hK K
        refine wpAnyH_ready (rs := [15]) (by kernel_rfl) (by simp) ?_
        refine AllReadyH.cons rfl (fun K hK => ?_) AllReadyH.nil
        (refine step_append_lies _ (by rfl) _ _ _ (by rfl) w5.heap.size 141 i0 _ 6 40 Try.underlying134 hi0 hz0 hz1 hz2 rfl (by omega) vW k WC (by rfl) ((howa.alloc _).drew) ⟨wa.heap.size, 0, none⟩ 1 1 [.int .i64 (d.place : Int), .int .i64 (r.dst : Int), .bool r.late, .bool false, .int .i64 0, .int .i64 0] (by rfl) (by rfl) (World.news_of_block (cs := #[.int .i64 (d.place : Int), .int .i64 (r.dst : Int), .bool r.late, .bool false, .int .i64 0, .int .i64 0]) (t := 141) (fr := (0, 0)) (heap_alloc_new wa _)) (by simp [Value.oneCell']) (by omega) (by unfold maxLen; omega) (by omega) (by simp; omega) (wa.heap.size + 1) (by simp) ?_; intro gg cap2 w3' hown3 hgrow hat hlt3; have k4 := hgrow.cell (a := ⟨w1.heap.size, 2, none⟩) (ca _) ne1; have e4 := (hgrow.frozen_far ⟨w1.heap.size, 2, none⟩ (by simp; omega) ne1).trans (fa _); have z0 := hgrow.cell (a := ⟨w1.heap.size, 0, none⟩) (c0a _) ne1; have z0' : ∀ x, (w3'.setCell ⟨w1.heap.size, 2, none⟩ x).cell? ⟨w1.heap.size, 0, none⟩ = some (.slice (some ⟨ge, 0, none⟩) es.length cE) := fun x => (World.cell?_setCell_other _ _ _ _ (by simp)).trans z0; have z1 := hgrow.cell (a := ⟨wr.heap.size, 0, none⟩) (d0a _) ne2; have z2 := hgrow.cell (a := ⟨wr.heap.size, 1, none⟩) (d1a _) ne2; have z3 := hgrow.cell (a := ⟨wr.heap.size, 2, none⟩) (d2a _) ne2; have z4 := hgrow.cell (a := ⟨ge, r.src * 7 + 4, none⟩) (y4a _) ne3)
        refine hK.out _ _ (⟨z0, z1, z2, z3, z4⟩) (fun hHeld3 => ?_)
        clear hK K
        simp only [Act.put, List.setIfInBounds_toArray]
        refine wpAnyH_take (i := 16) (v := ?_) rfl (by kernel_rfl) (by kernel_rfl) (by kernel_rfl) (fun _ _ _ h => h) (Or.inl ⟨by rfl, ?_⟩) hHeld3 ?_
        rotate_left
        · intro w hSw
          (try dsimp only at hSw)
          go_simp
          (try with_reducible rfl)
        simp only [Act.put]
        refine wpAnyH_ready (rs := [17]) (by kernel_rfl) (by simp) ?_
        refine AllReadyH.cons rfl (fun K hK => ?_) AllReadyH.nil
        go_simp
        refine hK.out _ _ (⟨z0' _, (World.cell?_setCell_other _ _ _ _ (fun e => m1 (congrArg Addr.block e))).trans z1, (World.cell?_setCell_other _ _ _ _ (fun e => m1 (congrArg Addr.block e))).trans z2, (World.cell?_setCell_other _ _ _ _ (fun e => m1 (congrArg Addr.block e))).trans z3, (World.cell?_setCell_other _ _ _ _ (fun e => m2 (congrArg Addr.block e))).trans z4⟩) (fun _ => ?_)
        clear hK K
        refine wpAnyH_done (by kernel_rfl) ?_ _
        have hblkW : ∀ j, j < wa.heap.size → some j ≠ vW.ownBlock → w3'.heap[j]? = wa.heap[j]? := fun j h1 h2 => (hgrow.block j (by simp; omega) h2).trans (heap_alloc_old wa _ h1)
        have hgb : gg ≠ w1.heap.size := by
          rcases hat with hat | hat
          · intro e; exact nbv (by rw [hat, e])
          · omega
        have hszW : wa.heap.size ≤ w3'.heap.size := by have := hgrow.size; simp at this; omega
        have HS6 : Hid (SceneAt (w3'.setCell ⟨w1.heap.size, 2, none⟩ (.slice (some ⟨gg, 0, none⟩) (k + 1) cap2)) w1.heap.size (.slice (some ⟨ge, 0, none⟩) es.length cE) (.slice aV es.length cV) (.slice (some ⟨gg, 0, none⟩) (k + 1) cap2)) := hide (SceneAt.set (World.rowIs.of_block HSCA.out (hblkW _ lb ne1)) _)
        have HO6 : Hid ((w3'.setCell ⟨w1.heap.size, 2, none⟩ (.slice (some ⟨gg, 0, none⟩) (k + 1) cap2)).ownsRow w5.heap.size 141 6 (.slice (some ⟨gg, 0, none⟩) (k + 1) cap2) (k + 1) (wireCells es (ls.take (k + 1)))) := hide (by
          rw [HTK.out]
          exact own_blk hown3 (fun j hj => heap_setCell_other w3' ⟨w1.heap.size, 2, none⟩ j _ (by
            have e : gg = j := by simpa [Value.ownBlock] using hj
            show j ≠ w1.heap.size
            omega)))
        have HF6 : Hid (Fr (fun j => j < w5.heap.size ∧ j ≠ w1.heap.size) w5 (w3'.setCell ⟨w1.heap.size, 2, none⟩ (.slice (some ⟨gg, 0, none⟩) (k + 1) cap2))) := hide (by
          have hf : Fr (fun j => j < w5.heap.size ∧ j ≠ w1.heap.size) wa w3' := ⟨hgrow.os, hgrow.tape, hgrow.output, hszW, fun j hj => hblkW j (by omega) (fun e => by have := ownBlock_ge howa j e.symm; omega)⟩
          exact (HFA.out.trans hf).setCell (fun e => e.2 rfl) _)
        clear hblkW hgb hszW hown3 hgrow hat hlt3 k4 e4
        go_wp2
        go_roundw
        case rel => exact ⟨k + 1, _, by omega, by go_num, fun e => by omega, HS6.out, HO6.out, HF6.out⟩
        case measure => simp [intOf]; omega
    · have ek : k = ls.length := by omega
      subst ek
      rw [List.take_length] at hown
      have hmk : ∀ w : World, (Instr.makeSlice 33 (.int .i64 (sc.length : Int)) (.int .i64 (sc.length : Int))).run Try.prog w = .ok (.slice (some ⟨w.heap.size, 0, none⟩) sc.length sc.length) (w.alloc (.cells (madeCells #[.int .i64 0, .int .i64 0, .int .i64 0, .int .i64 0, .slice none 0 0, .slice none 0 0] (sc.length * 6)) 41)) := fun w => by
        have := run_make (P := Try.prog) w 33 41 i5 _ Try.underlying33 hi5 hy0 .i64 .i64 sc.length sc.length (by omega) (by omega) (by rw [hy2]; omega) (by omega)
        rw [hy1] at this
        simpa [Value.cells] using this
      obtain ⟨N, hN⟩ : ∃ N, N = netD es ls := ⟨_, rfl⟩
      have hNl : N.length = ls.length := by rw [hN, netD_len]
      obtain ⟨aW, cW, rfl, hshW⟩ := own_shape hown
      have hlb := World.rowIs.lt hsc
      have hScn : Scn wr (fun _ => False) w1.heap.size aW ls.length cW (.slice aE es.length cE) (.slice aV es.length cV) (wireP N []) (fun q => cntF [] (q : Int) 1) (fun q => holdsN [] (q : Int)) := by
        refine ⟨World.rowIs.congr hsc (fun i hi => ?_), fun hp => ?_, fun e => e, fun g _ e => e, fun k e => e.elim, hll, fun h0 => ?_⟩
        · match i, hi with
          | 0, _ => rfl
          | 1, _ => rfl
          | 2, _ => rfl
          | i + 3, _ => rfl
        · obtain ⟨g, rfl, hg1, hg2⟩ := hshW hp
          refine ⟨g, rfl, ?_, by omega⟩
          rw [hN]
          exact wires_of hown
        · have e := HK0.out h0
          injection e
      have hbge : w.heap.size ≤ w1.heap.size := hs1
      have hgW : ∀ g, aW = some ⟨g, 0, none⟩ → w5.heap.size ≤ g ∧ g < wr.heap.size := fun g e => by
        rcases Nat.eq_zero_or_pos ls.length with h0 | h0
        · have e2 := HK0.out h0
          injection e2 with e3
          rw [e3] at e
          cases e
        · obtain ⟨g', e2, h1, h2⟩ := hshW h0
          rw [e2] at e
          cases e
          exact ⟨h1, h2⟩
      obtain ⟨wy, hwy⟩ : ∃ wy, wy = wr.alloc (.cells (madeCells #[.int .i64 0, .int .i64 0, .int .i64 0, .int .i64 0, .slice none 0 0, .slice none 0 0] (sc.length * 6)) 41) := ⟨_, rfl⟩
      have hszy : wy.heap.size = wr.heap.size + 1 := by rw [hwy]; simp
      have hby : Below wr.heap.size wr wy := by rw [hwy]; exact (Below.refl _ _).alloc (Nat.le_refl _) _
      have hEv0 : EvI wy wy.heap.size wr.heap.size sc.length (fun j => wakeF N V (pastI N V sc j) (actF sc j)) 0 (fun _ => .slice none 0 0) (fun _ => .slice none 0 0) := by
        rw [hwy]
        exact EvI.start wr sc.length _ (size_madeCells _ _) _ _
      have hFy : Fr (fun j => j < w5.heap.size ∧ j ≠ w1.heap.size) w5 wy := hfr.trans (Fr.of_below hby (fun j hj => by omega))
      have hBwy : Below w.heap.size w wy := by
        have h5 : Below w.heap.size w w5 := HB4.out.trans (HB5.out.mono (by omega))
        exact h5.trans (Fr.to_below (hFy.mono (Y := fun k => k < w.heap.size) (fun k hk => ⟨by have : k < w.heap.size := hk; omega, by have : k < w.heap.size := hk; omega⟩)))
      have hDy : ScD wy (fun j => j < wy.heap.size ∧ j ≠ w1.heap.size ∧ aW ≠ some ⟨j, 0, none⟩ ∧ j ≠ wr.heap.size) es aE cE aV cV gv (sc.length / 2) R S := by
        have hin : ∀ j, j < w5.heap.size → j ≠ w1.heap.size → (j < wy.heap.size ∧ j ≠ w1.heap.size ∧ aW ≠ some ⟨j, 0, none⟩ ∧ j ≠ wr.heap.size) := fun j h1 h2 => ⟨by omega, h2, fun e => by have := hgW j e; omega, by omega⟩
        have hm5 := HM4.out.below HB5.out
        have hmy : MatI wy gv es.length (sc.length / 2) R S := by
          rcases Nat.eq_zero_or_pos es.length with h0 | h0
          · exact ⟨fun i hi => by omega, fun i hi => by omega, hm5.inj, hm5.ne⟩
          · have hgl := HM4.out.lt h0
            exact hm5.keep (hFy.block _ ⟨by omega, by omega⟩) (fun i hi => hFy.block _ ⟨by have := World.rowIs.lt (HM4.out.rows i hi); omega, by have := HRG.out i hi; omega⟩)
        refine ⟨own_zero (own_blk HE4.out (fun k hk => ?_)), hmy, HAV.out, fun hp => ?_, fun k hk => ?_, fun hp => ?_, fun i hi => ?_, hel⟩
        · have := HEL.out k hk
          rw [hFy.block k ⟨by omega, by omega⟩, HB5.out.block k (by omega)]
        · obtain ⟨ge, e, h1, h2⟩ := HSHE.out hp
          exact ⟨ge, e, by omega⟩
        · have := HEL.out k hk
          exact hin k (by omega) (by omega)
        · have := HM4.out.lt hp
          exact hin gv (by omega) (by omega)
        · have h1 := World.rowIs.lt (HM4.out.rows i hi)
          have h2 := HRG.out i hi
          exact hin (R i) (by omega) (by omega)
      have hScy : Scn wy (fun _ => False) w1.heap.size aW ls.length cW (.slice aE es.length cE) (.slice aV es.length cV) (wireP N (pastI N V sc 0)) (fun q => cntF (pastI N V sc 0) (q : Int) 1) (fun q => holdsN (pastI N V sc 0) (q : Int)) := hScn.below hby
      have HSCY := hide hScy
      have HEV0 := hide hEv0
      have HDY := hide hDy
      have HBWY := hide hBwy
      have HGW := hide hgW
      have HNN := hide hN
      have HNL := hide hNl
      have HWY := hide hwy
      rw [← HNN.out] at HAP
      clear hsc hown hfr hshW hScn hbge hgW hwy hby hEv0 hFy hBwy hDy hScy HSC5 HL5 HLB HSHL hN hNl HK0
      go_wp2
      rw [← HWY.out]
      have hwrl : wr.heap.size < wy.heap.size := by omega
      generalize wr.heap.size = GE at *
      clear HWY
      go_loopw [53] (fun vi wx => ∃ (i : Nat) (TV VV : Nat → Value), i ≤ sc.length ∧ vi = .int .i64 i ∧ Scn wx (fun _ => False) w1.heap.size aW ls.length cW (.slice aE es.length cE) (.slice aV es.length cV) (wireP N (pastI N V sc i)) (fun q => cntF (pastI N V sc i) (q : Int) 1) (fun q => holdsN (pastI N V sc i) (q : Int)) ∧ EvI wx wy.heap.size GE sc.length (fun j => wakeF N V (pastI N V sc j) (actF sc j)) i TV VV ∧ Fr (fun j => j < wy.heap.size ∧ j ≠ w1.heap.size ∧ aW ≠ some ⟨j, 0, none⟩ ∧ j ≠ GE) wy wx) (fun vi _ => sc.length - (intOf vi).toNat)
      case atStart => exact ⟨0, _, _, Nat.zero_le _, rfl, HSCY.out, HEV0.out, Fr.refl _ _⟩
      case round =>
        clear HSCY HEV0 hmk
        obtain ⟨i, TV, VV, hi, rfl, hsc, hev, hfr⟩ := hrel
        have hszx := hfr.size
        have hBx : Below w.heap.size w wr := HBWY.out.trans (Fr.to_below (hfr.mono (Y := fun k => k < w.heap.size) (fun k hk => by have : k < w.heap.size := hk; exact ⟨by omega, by omega, fun e => by have := HGW.out k e; omega, by omega⟩)))
        by_cases hil : i < sc.length
        · obtain ⟨bs, os, rfl, hbs, hrs⟩ := HCS.out (by omega)
          obtain ⟨x0, x1, x2, x3⟩ := act_cells hrs hBx hbs hil
          obtain ⟨p, hp, hpk⟩ := HPL.out i hil
          obtain ⟨⟨ta0, ta1⟩, ⟨tb0, tb1⟩, tc0, tc1⟩ := HT.out i hil
          have hact : sc[i] = actF sc i := actF_get hil
          obtain ⟨hO, hI⟩ := past_all V HAP.out HAO.out hil
          rw [hact] at hO
          have hps := past_succ N V sc hil
          rw [hact] at hps
          have hpl' := past_len N V sc (i := i) (by omega)
          have hcl := cnt_len (pastI N V sc i) (p : Int)
          obtain ⟨a, ha⟩ : ∃ a, a = actF sc i := ⟨_, rfl⟩
          rw [← ha] at x0 x1 x2 x3 hpk ta0 ta1 tb0 tb1 tc0 tc1 hO hps
          have hEFi : (fun j => wakeF N V (pastI N V sc j) (actF sc j)) i = wakeF N V (pastI N V sc i) a := by rw [ha]
          obtain ⟨oa, ob, oc, hab⟩ : ∃ oa ob oc, a = ⟨(p : Int), oa, ob, oc⟩ := ⟨a.a, a.b, a.c, by rw [← hpk]⟩
          obtain ⟨wa, hwa⟩ : ∃ wa, wa = wr.alloc (.cells #[.int .i64 (p : Int), .int .i64 oa, .int .i64 ob, .int .i64 oc] 43) := ⟨_, rfl⟩
          have hba : Below wr.heap.size wr wa := by rw [hwa]; exact (Below.refl _ _).alloc (Nat.le_refl _) _
          have hsa : wa.heap.size = wr.heap.size + 1 := by rw [hwa]; simp
          have hScA : Scn wa (fun k => k < wa.heap.size ∧ k ≠ w1.heap.size ∧ aW ≠ some ⟨k, 0, none⟩) w1.heap.size aW ls.length cW (.slice aE es.length cE) (.slice aV es.length cV) (wireP N (pastI N V sc i)) (fun q => cntF (pastI N V sc i) (q : Int) 1) (fun q => holdsN (pastI N V sc i) (q : Int)) := (hsc.below hba).more (fun e => e.2.1 rfl) (fun g hg e => e.2.2 hg) (fun k e => e.1)
          have hDA : ScD wa (fun k => k < wa.heap.size ∧ k ≠ w1.heap.size ∧ aW ≠ some ⟨k, 0, none⟩) es aE cE aV cV gv (sc.length / 2) R S := ((HDY.out.fr hfr).fr (Fr.of_below hba (fun j hj => by omega))).weak (fun k hk => ⟨by omega, hk.2.1, hk.2.2.1⟩)
          have hEvA := hev.below hba
          subst hab
          simp only [] at x0 x1 x2 x3 ta0 ta1 tb0 tb1 tc0 tc1 hO hpk
          have HWK := hide (pwake_any hScA hDA (fun k e => e.1) p hp oa ob oc ⟨by omega, by omega⟩ ⟨by omega, by omega⟩ (by show cntF (pastI N V sc i) (p : Int) 1 ≤ 1000; omega) (fun hh => by
            have hh' : cntF (pastI N V sc i) (p : Int) 2 < cntF (pastI N V sc i) (p : Int) 1 := by simpa [holdsN] using hh
            refine ⟨by show 1 ≤ cntF (pastI N V sc i) (p : Int) 1; omega, fun hf => ?_⟩
            have hI' := hI.turn (p : Int)
            show cntF (pastI N V sc i) (p : Int) 1 - 1 < sc.length / 2
            omega) (by omega))
          have j3 : (0 : Int) ≤ (i : Int) := by omega
          have j4 : (i : Int) < (sc.length : Int) := by omega
          have hlt1 : w1.heap.size < w5.heap.size := by omega
          have hGb : GE ≠ w1.heap.size := by omega
          have hGg : aW ≠ some ⟨GE, 0, none⟩ := fun e => by have := HGW.out GE e; omega
          rw [hwa] at HWK
          have HWA := hide hwa
          have HO := hide hO
          have HI := hide hI
          have HPS := hide hps
          have HEFI := hide hEFi
          have HEVA := hide hEvA
          have HFRX := hide hfr
          have HBA := hide hba
          have HBX := hide hBx
          clear hO hI hps hEFi hEvA hfr hba hScA hDA hsc hev hact hrs hwa ha hBx hpl' hcl hpk
          go_wp2_with fail
          refine HWK.out.mono ?_
          rw [← HWA.out]
          rintro e w6 ⟨vT, vV, r, hr, rfl, hT, hVv, hTV, hS6, hF6⟩
          obtain ⟨k1, k2, k3, k4, k5, k6⟩ := wk_is HO.out HI.out HAP.out ta0 (p := p) rfl (V := V) (fun m => HV.out p m) r (by rw [HNL.out]; exact hr)
          rw [← HNL.out, filter_is HO.out HI.out] at hT
          rw [k3] at hVv
          rw [k1, k2]
          obtain ⟨aT, cT, rfl, _⟩ := own_shape hT
          obtain ⟨aN, cN, rfl, _⟩ := own_shape hVv
          have hEN := EvI.step HEVA.out (b := w1.heap.size) (aW := aW) (by omega) (fun g hg => by have := HGW.out g hg; omega) (by omega) hGb hGg (by omega) hF6 (by rw [HEFI.out]; exact hT) (by rw [HEFI.out]; exact hVv) hTV
          simp only [HEFI.out] at hEN
          have hS7 : Scn w6 (fun _ => False) w1.heap.size aW ls.length cW (.slice aE es.length cE) (.slice aV es.length cV) (wireP N (pastI N V sc (i + 1))) (fun q => cntF (pastI N V sc (i + 1)) (q : Int) 1) (fun q => holdsN (pastI N V sc (i + 1)) (q : Int)) := by
            rw [HPS.out]
            exact (hS6.weak (X := fun _ => False) (fun k e => e.elim)).congr (fun l hl => k4 l (by rw [HNL.out]; exact hl)) (fun q _ => k5 q) (fun q _ => k6 q)
          obtain ⟨f, hf1, _⟩ := HEVA.out.row
          have hrow6 := hf1.of_block (hF6.block GE ⟨by omega, hGb, hGg⟩)
          have hil6 : i * 6 + 5 < sc.length * 6 := by omega
          have y0 := hrow6.cell (i := i * 6) (by omega)
          have y1 := hrow6.cell (i := i * 6 + 1) (by omega)
          have y2 := hrow6.cell (i := i * 6 + 2) (by omega)
          have y3 := hrow6.cell (i := i * 6 + 3) (by omega)
          have y4 := hrow6.cell (i := i * 6 + 4) (by omega)
          have y5 := hrow6.cell (i := i * 6 + 5) (by omega)
          have f0 := hrow6.frozen (i * 6)
          have f1 := hrow6.frozen (i * 6 + 1)
          have f2 := hrow6.frozen (i * 6 + 2)
          have f3 := hrow6.frozen (i * 6 + 3)
          have f4 := hrow6.frozen (i * 6 + 4)
          have f5 := hrow6.frozen (i * 6 + 5)
          have HEN := hide hEN
          have HS7 : Hid (∀ W', Fr (fun k => k ≠ GE) w6 W' → Scn W' (fun _ => False) w1.heap.size aW ls.length cW (.slice aE es.length cE) (.slice aV es.length cV) (wireP N (pastI N V sc (i + 1))) (fun q => cntF (pastI N V sc (i + 1)) (q : Int) 1) (fun q => holdsN (pastI N V sc (i + 1)) (q : Int))) := hide (fun W' hW' => hS7.fr (hW'.mono (fun k hk => by
            rcases hk with hk | hk | hk
            · exact hk.elim
            · omega
            · have := HGW.out k hk; omega)))
          have HF7 : Hid (∀ W', Fr (fun k => k ≠ GE) w6 W' → Fr (fun j => j < wy.heap.size ∧ j ≠ w1.heap.size ∧ aW ≠ some ⟨j, 0, none⟩ ∧ j ≠ GE) wy W') := hide (fun W' hW' => ((HFRX.out.trans (Fr.of_below HBA.out (fun j hj => by omega))).trans (hF6.mono (fun k hk => ⟨by omega, hk.2.1, hk.2.2.1⟩))).trans (hW'.mono (fun k hk => hk.2.2.2)))
          generalize hwkd : (wakeF N V (pastI N V sc i) ⟨(p : Int), oa, ob, oc⟩) = E0 at *
          have hE0k : E0.k = (p : Int) := by rw [← hwkd]; rfl
          have hE0a : E0.a = oa := by rw [← hwkd]; rfl
          rw [hE0k, hE0a] at HEN
          clear hwkd hE0k hE0a hr hT hVv hTV hS6 hF6 k1 k2 k3 k4 k5 k6 hEN hS7 hf1 hrow6 x0 x1 x2 x3
          go_wp2
          go_roundw
          case rel => exact ⟨i + 1, _, _, by omega, by go_num, HS7.out _ (six_frame GE i _ _ _ _ _ _), HEN.out, HF7.out _ (six_frame GE i _ _ _ _ _ _)⟩
          case measure => simp [intOf]; omega
        · have ei : i = sc.length := by omega
          subst ei
          have HBX := hide hBx
          have hlen : ((runG N V [] sc).map Prod.snd).length = sc.length := by
            obtain ⟨S0, h1, h2, _⟩ := run_ext N V sc []
            rw [List.length_map, h1, List.nil_append, ← h2, List.length_map]
          have HEV := hide (hev.done (B := w.heap.size) (by omega) (by omega) (by omega) h400 hlen (fun j hj => by
            have hj' : j < sc.length := by omega
            have := past_get N V sc hj'
            rw [actF_get hj', List.getElem?_eq_getElem hj] at this
            exact Option.some.inj this))
          have HRR : Hid (netD (eqsF ds) (linksF ds ns) = N) := hide (by rw [← HES.out, ← HLS.out, HNN.out])
          clear hsc hev hfr hBx hlen
          go_wp2
          go_ret
          exact ⟨_, TV, VV, rfl, by rw [HRR.out]; exact HEV.out, HBX.out⟩
end Go.Proofs.Ytmndgoapkmhglab
