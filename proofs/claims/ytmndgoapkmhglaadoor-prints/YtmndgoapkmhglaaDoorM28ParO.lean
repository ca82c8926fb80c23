import Derived.Deep.LoopGhost
import Derived.Test.YtmndgoapkmhglaaDoorM00Cut
import Derived.Test.YtmndgoapkmhglaaDoorM27ParM
namespace Go.Proofs.YtmndgoapkmhglaaDoor
open Go.RowKit
attribute [local go_sem ↓] Go.wp_at_zero Go.wp_at_succ
attribute [local go_sem] Tryd.fieldTok0 Tryd.fieldTok1 Tryd.fieldTok2

set_option maxHeartbeats 1000000 in
set_option maxRecDepth 100000 in
theorem find_any (w : World) (q o : Nat) (l : List Dc) (vd : Value) (name : ByteArray) (hc : w.cell? ⟨q, o, none⟩ = some vd) (hown : w.ownsRow 0 96 7 vd l.length (dcCells l)) (hl : l.length ≤ 1501) :
    Calls Tryd.prog 50 #[.pointer (some ⟨q, o, none⟩), .string name] w fun e w' => e = .returned (.int .i64 (findF l name)) ∧ Below w.heap.size w w' := by
  obtain ⟨av, cap, rfl, hsh⟩ := own_shape hown
  have HO := hide hown
  have HSH := hide hsh
  clear hown hsh
  go_enter Tryd.func50, Tryd.ntmps50
  go_wp2
  go_loopw [12] (fun i wr => ∃ k : Nat, k ≤ l.length ∧ i = .int .i64 k ∧ Below w.heap.size w wr ∧ ∀ j (hj : j < k) (hj2 : j < l.length), (l[j]'hj2).name.data.toList ≠ name.data.toList) (fun i _ => l.length - (intOf i).toNat)
  case atStart => exact ⟨0, Nat.zero_le _, rfl, Below.refl _ _, fun j hj => by omega⟩
  case round =>
    obtain ⟨k, hk, rfl, hbel, hne⟩ := hrel
    have HNE := hide hne
    clear hne
    by_cases hlt : k < l.length
    · obtain ⟨g, rfl, _, hg2⟩ := HSH.out (by omega)
      have hcs := dcAt_cells HO.out hlt
      obtain ⟨a, ha⟩ : ∃ a, a = l[k]'hlt := ⟨_, rfl⟩
      rw [← ha] at hcs
      have hcr : ∀ j, j < 7 → wr.cell? ⟨g, k * 7 + j, none⟩ = a.cells[j]? := fun j hj => (hbel.cell (p := ⟨g, k * 7 + j, none⟩) hg2).trans (hcs j hj)
      have x0 := hcr 0 (by omega)
      have x1 := hcr 1 (by omega)
      have x2 := hcr 2 (by omega)
      have x3 := hcr 3 (by omega)
      have x4 := hcr 4 (by omega)
      have x5 := hcr 5 (by omega)
      have x6 := hcr 6 (by omega)
      simp [Dc.cells] at x0 x1 x2 x3 x4 x5 x6
      have j1 : (0 : Int) ≤ (k : Int) := by omega
      have j2 : (k : Int) < (l.length : Int) := by omega
      have HA := hide ha
      clear hcs hcr ha
      by_cases he : a.name.data.toList = name.data.toList
      · have q1 : (a.name.toList == name.toList) = true := by rw [ByteArray.toList_eq, ByteArray.toList_eq]; simpa using he
        have HF : Hid (findF l name = (k : Int)) := hide (findF_hit l name k hlt (by rw [← HA.out]; exact he) (fun j hj => HNE.out j hj (by omega)))
        clear he
        go_wp2
        go_ret
        exact ⟨ret_intN HF.out.symm, hbel.alloc hbel.size _⟩
      · have q1 : (a.name.toList == name.toList) = false := by rw [ByteArray.toList_eq, ByteArray.toList_eq]; simpa using he
        have HE := hide he
        clear he
        go_wp2
        go_roundw
        case rel =>
          refine ⟨k + 1, by omega, by go_num, hbel.alloc hbel.size _, fun j hj hj2 => ?_⟩
          by_cases ej : j = k
          · subst ej; rw [← HA.out]; exact HE.out
          · exact HNE.out j (by omega) hj2
        case measure => simp [intOf]; omega
    · have HF : Hid (findF l name = -1) := hide (findF_miss l name (fun j hj => HNE.out j (by omega) hj))
      go_wp2
      go_ret
      exact ⟨ret_intN HF.out.symm, hbel⟩

/-- the first k nodes bound. -/
def mixB (p : PS) (k : Nat) : PS := { p with nodes := (p.nodes.take k).map (bindF p.decls) ++ p.nodes.drop k }
theorem mixB_zero (p : PS) : mixB p 0 = p := by simp [mixB]
theorem mixB_len (p : PS) (k : Nat) (h : k ≤ p.nodes.length) : (mixB p k).nodes.length = p.nodes.length := by simp [mixB]; omega
theorem mixB_at (p : PS) (k : Nat) (h : k < p.nodes.length) : (mixB p k).nodes[k]? = some (p.nodes[k]'h) := by
  have hl : ((p.nodes.take k).map (bindF p.decls)).length = k := by simp; omega
  show ((p.nodes.take k).map (bindF p.decls) ++ p.nodes.drop k)[k]? = _
  rw [List.getElem?_append_right (by omega), hl, Nat.sub_self, List.getElem?_drop]
  simp [h]
theorem mixB_succ (p : PS) (k : Nat) (h : k < p.nodes.length) : mixB p (k + 1) = { mixB p k with nodes := (mixB p k).nodes.set k (bindF p.decls (p.nodes[k]'h)) } := by
  unfold mixB
  congr 1
  have hl : ((p.nodes.take k).map (bindF p.decls)).length = k := by simp; omega
  rw [List.set_append_right _ _ (by omega), hl, Nat.sub_self, List.take_succ_eq_append_getElem h, List.map_append, List.append_assoc, List.drop_eq_getElem_cons h]
  rfl

/-- one cell of a node. -/
theorem ParV.setDecl {w : World} {X : Nat → Prop} {b : Nat} {ts : List Tk} {p : PS} {vt vd : Value} {g cap : Nat} (h : ParV w X b ts p vt vd (.slice (some ⟨g, 0, none⟩) p.nodes.length cap)) {k : Nat} (hk : k < p.nodes.length) (i : Int) :
    ParV (w.setCell ⟨g, k * 11 + 4, none⟩ (.int .i64 i)) X b ts { p with nodes := p.nodes.set k { (p.nodes[k]'hk) with decl := i } } vt vd (.slice (some ⟨g, 0, none⟩) p.nodes.length cap) ∧ Fr X w (w.setCell ⟨g, k * 11 + 4, none⟩ (.int .i64 i)) := by
  obtain ⟨h1, h2⟩ := h.nodes.stored (k * 11 + 4) (.int .i64 i)
  have hlen : (ndCells p.nodes).length = p.nodes.length * 11 := h.nodes.1
  have e : (ndCells p.nodes).set (k * 11 + 4) (.int .i64 i) = ndCells (p.nodes.set k { (p.nodes[k]'hk) with decl := i }) := by
    have e1 : ndCells (p.nodes.set k { (p.nodes[k]'hk) with decl := i }) = (ndCells p.nodes).take (k * 11) ++ ({ (p.nodes[k]'hk) with decl := i } : Nd).cells ++ (ndCells p.nodes).drop (k * 11 + 11) := flat_set Nd.cells 11 nd_len _ p.nodes k hk
    have e2 : ndCells p.nodes = (ndCells p.nodes).take (k * 11) ++ (p.nodes[k]'hk).cells ++ (ndCells p.nodes).drop (k * 11 + 11) := by
      have := flat_set Nd.cells 11 nd_len (p.nodes[k]'hk) p.nodes k hk
      rw [List.set_getElem_self] at this
      exact this
    have hl : ((ndCells p.nodes).take (k * 11)).length = k * 11 := by rw [List.length_take]; omega
    rw [e1]
    conv => lhs; rw [e2]
    rw [List.append_assoc, List.set_append_right _ _ (by omega), hl, show k * 11 + 4 - k * 11 = 4 from by omega, List.set_append_left _ _ (by rw [nd_len]; omega), List.append_assoc]
    rfl
  rw [e] at h1
  have hb : some b ≠ some g := fun e => h.nb (by simp [Value.ownBlock, Option.some.inj e])
  refine ⟨⟨(h2.block b h.lt hb).trans h.at_b, h.toks.kept h2 (.inr fun e => h.tn g e rfl), h.decls.kept h2 (.inr fun e => h.dn g e rfl), ?_, h.tb, h.db, h.nb, h.td, h.tn, h.dn, fun k hk => Nat.lt_of_lt_of_le (h.xlt k hk) h2.size, h.xb, h.xd, h.xn, h.xt⟩, ?_⟩
  · simpa using h1
  · exact ⟨h2.os, h2.tape, h2.output, h2.size, fun j hj => h2.block j (h.xlt j hj) (fun e => h.xn g rfl (by rw [← Option.some.inj e]; exact hj))⟩

theorem cell43 (g k : Nat) (w : World) (v : Value) : (w.setCell ⟨g, k * 11 + 4, none⟩ v).cell? ⟨g, k * 11 + 3, none⟩ = w.cell? ⟨g, k * 11 + 3, none⟩ :=
  World.cell?_setCell_other _ _ _ _ (by intro h; have := congrArg Addr.off h; simp at this)

set_option maxHeartbeats 2000000 in
set_option maxRecDepth 100000 in
theorem bind_any {ts : List Tk} (w : World) (X : Nat → Prop) (b : Nat) (p : PS) (h : Par w X b ts p) (hnl : p.nodes.length ≤ 1501) (hdl : p.decls.length ≤ 1501) :
    Calls Tryd.prog 28 #[.pointer (some ⟨b, 0, none⟩)] w fun e w' => e = .returned (.tuple #[]) ∧ Par w' X b ts { p with nodes := p.nodes.map (bindF p.decls) } ∧ Fr X w w' := by
  have HP0 := hide h
  obtain ⟨vt0, vd0, vn0, hv0⟩ := h
  have c5 := hv0.cell.2.2.2.2.2
  obtain ⟨av0, cap0, rfl, _⟩ := own_shape hv0.nodes
  clear hv0
  go_enter Tryd.func28, Tryd.ntmps28
  go_wp2
  clear c5
  go_loopw [9] (fun i wr => ∃ k : Nat, k ≤ p.nodes.length ∧ i = .int .i64 k ∧ Par wr X b ts (mixB p k) ∧ Fr X w wr) (fun i _ => p.nodes.length - (intOf i).toNat)
  case atStart => exact ⟨0, Nat.zero_le _, rfl, by rw [mixB_zero]; exact HP0.out, Fr.refl _ _⟩
  case round =>
    obtain ⟨k, hk, rfl, hpr, hfr⟩ := hrel
    by_cases hlt : k < p.nodes.length
    · obtain ⟨vt, vd, vn, hv⟩ := hpr
      have hml := mixB_len p k hk
      have hkm : k < (mixB p k).nodes.length := by omega
      have c5 := hv.cell.2.2.2.2.2
      have c4 := hv.cell.2.2.2.2.1
      have hdec := hv.decls
      have lb := hv.lt
      obtain ⟨g, cap, rfl, _, glt⟩ := hv.nodes.form (by omega)
      have nbg : g ≠ b := by rintro rfl; exact hv.nb rfl
      have nbg' := nbg.symm
      have c43 := cell43 g k
      have hcs := ndAt_cells hv.nodes hkm
      have yF : ∀ i, wr.frozen? ⟨g, i, none⟩ = false := fun i => hv.nodes.frozenAt i
      have hat : (mixB p k).nodes[k]'hkm = p.nodes[k]'hlt := by
        have := mixB_at p k hlt
        rw [List.getElem?_eq_getElem hkm] at this
        exact Option.some.inj this
      rw [hat] at hcs
      obtain ⟨a, ha⟩ : ∃ a, a = p.nodes[k]'hlt := ⟨_, rfl⟩
      rw [← ha] at hcs
      have x0 := hcs 0 (by omega)
      have x3 := hcs 3 (by omega)
      have x4 := hcs 4 (by omega)
      simp [Nd.cells] at x0 x3 x4
      rw [hml] at c5
      have j1 : (0 : Int) ≤ (k : Int) := by omega
      have j2 : (k : Int) < (p.nodes.length : Int) := by omega
      have HS := hide (mixB_succ p k hlt)
      have HV := hide hv
      have HA := hide ha
      have HAT := hide hat
      clear hv hcs ha hat
      by_cases hk2 : a.kind = 2
      · have q1 : ((a.kind : Int) == 2) = true := by rw [hk2]; rfl
        have HK2 := hide hk2
        clear hk2
        go_wp2_with fail
        go_region_held3 (fun w' => w'.cell? ⟨b, 5, none⟩ = some (.slice (some ⟨g, 0, none⟩) p.nodes.length cap) ∧ w'.cell? ⟨g, k * 11 + 3, none⟩ = some (.string a.name)) (go_keep)
          ((go_at_call 50; refine (find_any _ b 4 (mixB p k).decls vd a.name ?_ ?_ hdl).mono ?_; (simpa using c4); (exact hdec.drew); rintro e w' ⟨rfl, hbelF⟩; have kt := (hbelF.cell (p := ⟨g, k * 11 + 4, none⟩) (by simpa using glt)).trans x4; have kf := (hbelF.frozen (p := ⟨g, k * 11 + 4, none⟩) (by simpa using glt)).trans (yF _); have kb := (hbelF.cell (p := ⟨b, 5, none⟩) (by simpa using lb)).trans c5; have kn := (hbelF.cell (p := ⟨g, k * 11 + 3, none⟩) (by simpa using glt)).trans x3))
        rename_i hHeld
        clear hHeld
        have hv' : ParV w' X b ts (mixB p k) vt vd (.slice (some ⟨g, 0, none⟩) (mixB p k).nodes.length cap) := (HV.out.below ((Below.refl _ _).drew)).below hbelF
        have hset := hv'.setDecl hkm (findF (mixB p k).decls a.name)
        have HSET := hide hset
        have HBF := hide hbelF
        clear hv' hset hbelF kt kf kb kn c4 c5 x0 x3 x4 yF
        go_wp2
        go_roundw
        case rel =>
          refine ⟨k + 1, by omega, by go_num, ?_, ?_⟩
          · rw [HS.out]
            have e : bindF p.decls (p.nodes[k]'hlt) = { (mixB p k).nodes[k]'hkm with decl := findF (mixB p k).decls a.name } := by
              rw [HAT.out, ← HA.out]; unfold bindF; rw [if_pos HK2.out]; rfl
            rw [e]
            exact ⟨_, _, _, HSET.out.1⟩
          · exact (hfr.trans (Fr.of_below (((Below.refl _ _).drew).trans HBF.out) HV.out.xlt)).trans HSET.out.2
        case measure => simp [intOf]; omega
      · have q1 : ((a.kind : Int) == 2) = false := by rw [beq_eq_false_iff_ne]; omega
        have HK2 := hide hk2
        clear hk2
        go_wp2
        go_roundw
        case rel =>
          refine ⟨k + 1, by omega, by go_num, ?_, hfr⟩
          rw [HS.out]
          have e : bindF p.decls (p.nodes[k]'hlt) = (mixB p k).nodes[k]'hkm := by
            rw [HAT.out, ← HA.out]; unfold bindF; rw [if_neg HK2.out]
          rw [e, List.set_getElem_self]
          exact ⟨_, _, _, HV.out⟩
        case measure => simp [intOf]; omega
    · have ek : k = p.nodes.length := by omega
      have e : mixB p k = { p with nodes := p.nodes.map (bindF p.decls) } := by rw [ek]; simp [mixB]
      rw [e] at hpr
      have HPR := hide hpr
      have HFR := hide hfr
      clear hpr hfr e ek
      go_wp2
      go_end0
      exact ⟨rfl, HPR.out, HFR.out⟩

end Go.Proofs.YtmndgoapkmhglaaDoor

namespace Go.Proofs.YtmndgoapkmhglaaDoor
open Go.RowKit
attribute [local go_sem ↓] Go.wp_at_zero Go.wp_at_succ
attribute [local go_sem] Tryd.fieldTok0 Tryd.fieldTok1 Tryd.fieldTok2

/-- the parser as Parse lays it. -/
theorem par_start {w : World} {X : Nat → Prop} {ts : List Tk} {vt : Value} {B : Nat} (h : w.ownsRow B 57 3 vt ts.length (tkCells ts)) (hX : ∀ k, X k → k < B) (hB : B ≤ w.heap.size) :
    Par (w.alloc (.cells #[vt, .int .i64 0, .int .i64 0, .int .i64 0, .slice none 0 0, .slice none 0 0] 66)) X w.heap.size ts pZero := by
  have hlt := h.lt
  refine ⟨vt, .slice none 0 0, .slice none 0 0, heap_alloc_new w _, (own_zero h).alloc _, World.ownsRow_nil _ _ _ _, World.ownsRow_nil _ _ _ _, ?_, by simp [Value.ownBlock], by simp [Value.ownBlock], by simp [Value.ownBlock], by simp [Value.ownBlock], by simp [Value.ownBlock], ?_, ?_, by simp [Value.ownBlock], by simp [Value.ownBlock], ?_⟩
  · intro e; have := (hlt _ e).2; omega
  · intro k hk; have := hX k hk; simp; omega
  · intro hk; have := hX _ hk; omega
  · intro g hg hk; have := (hlt g hg).1; have := hX g hk; omega

/-- what Parse answers. -/
def ParseRes (w w' : World) (e : Ending) (s : ByteArray) : Except Nat PS → Prop
  | .ok p => ∃ vd vn, e = .returned (.tuple #[.agg #[vd, vn], .int .i64 0, .bool true]) ∧ w'.ownsRow w.heap.size 96 7 vd p.decls.length (dcCells p.decls) ∧
      w'.ownsRow w.heap.size 93 11 vn p.nodes.length (ndCells (p.nodes.map (bindF p.decls))) ∧ (∀ g, vd.ownBlock = some g → vn.ownBlock ≠ some g)
  | .error k => e = .returned (.tuple #[.agg #[.slice none 0 0, .slice none 0 0], .int .i64 ((tkAt (toks s) k).pos : Int), .bool false])

theorem own_base {w : World} {B e size n : Nat} {v : Value} {xs : List Value} (h : w.ownsRow 0 e size v n xs) (hb : ∀ g, v.ownBlock = some g → B ≤ g) : w.ownsRow B e size v n xs := by
  refine ⟨h.1, ?_⟩
  rcases h.2 with h0 | ⟨g, cap, cur, hv, _, hr⟩
  · exact .inl h0
  · exact .inr ⟨g, cap, cur, hv, hb g (by rw [hv]; rfl), hr⟩

set_option maxHeartbeats 1000000 in
set_option maxRecDepth 100000 in
theorem parse_any (s : ByteArray) (w : World) (hs : s.size ≤ 1500) :
    Calls Tryd.prog 12 #[.string s] w fun e w' => ParseRes w w' e s (parseF s) ∧ Below w.heap.size w w' := by
  have ht := toks_ok s hs
  have hdg := toks_dig s
  go_enter Tryd.func12, Tryd.ntmps12
  go_wp2_with fail
  refine (tokens_any s _ hs).mono ?_
  rintro e w1 ⟨vt, rfl, hown, hb1⟩
  have hR1 := (hb1.block w.heap.size (by simp)).trans (heap_alloc_new w _)
  have hB1 : Below w.heap.size w w1 := ((Below.refl _ _).alloc (Nat.le_refl _) _).trans (hb1.mono (by simp))
  have hsz1 : w.heap.size + 1 ≤ w1.heap.size := by have := hb1.size; simpa using this
  have hP0 := par_start (X := fun k => k < w.heap.size + 1) hown (by simp) (by simpa using hsz1)
  obtain ⟨g, cap, rfl, _, _⟩ := hown.form (by have := ht.pos; omega)
  have HT := hide ht
  have HDG := hide hdg
  have HP0 := hide hP0
  clear hown hb1 ht hdg hP0
  go_wp2_with fail
  go_loopg [9] (toks s).length (fun m _ wr => ∃ p, Par wr (fun k => k < w.heap.size + 1) w1.heap.size (toks s) p ∧ p.Wf (toks s) ∧ p.depth = 0 ∧ Fr (fun k => k < w.heap.size + 1) w1 wr ∧ (toks s).length - p.next ≤ m ∧ declsF (toks s) m p = parseF s)
  case atStart => exact ⟨pZero, HP0.out, pZero_wf HT.out, rfl, Fr.of_below ((Below.refl _ _).alloc (Nat.le_refl _) _) (fun k hk => by omega), by simp, rfl⟩
  case round =>
    obtain ⟨p, hpr, hwf, hd0, hfr, hm, hdec⟩ := hrel
    have HD0 := hide hd0
    have HDEC := hide hdec
    have hnx := hwf.next
    clear hd0 hdec
    go_wp2_with fail
    refine (here_any _ _ _ (toks s) p hpr hnx HT.out.1).mono ?_
    rintro e w2 ⟨rfl, hb2⟩
    have hP2 := hpr.below hb2
    have hF2 := hfr.trans (hpr.fr hb2)
    clear hpr hb2 hfr
    by_cases hk : (p.hd (toks s)).kind = 0
    · have q1 : (((p.hd (toks s)).kind : Int) != 0) = false := by rw [hk]; rfl
      have HR : Hid (parseF s = .ok p) := hide (by
        rw [← HDEC.out]
        cases gk with
        | zero => omega
        | succ m => unfold declsF; rw [if_pos hk])
      clear hk
      go_wp2_with fail
      refine (bind_any _ _ _ p hP2 (by have := hwf.nodes; have := HT.out.1; omega) (by have := hwf.decls; have := HT.out.1; omega)).mono ?_
      rintro e w3 ⟨rfl, hp3, hf3⟩
      have hF3 := hF2.trans hf3
      clear hP2 hf3 hF2
      obtain ⟨vt3, vd3, vn3, hv3⟩ := hp3
      obtain ⟨ad, cd, rfl, _⟩ := own_shape hv3.decls
      obtain ⟨an, cn, rfl, _⟩ := own_shape hv3.nodes
      have hln : ({ p with nodes := p.nodes.map (bindF p.decls) } : PS).nodes.length = p.nodes.length := by simp
      have hld : ({ p with nodes := p.nodes.map (bindF p.decls) } : PS).decls.length = p.decls.length := rfl
      have c4 := hv3.cell.2.2.2.2.1
      have c5 := hv3.cell.2.2.2.2.2
      have hR3 := (hF3.block w.heap.size (by omega)).trans hR1
      have r0 : w3.cell? ⟨w.heap.size, 0, none⟩ = some (.slice none 0 0) := by rw [cell_of_row w3 _ 0 _ _ _ hR3]; rfl
      have r1 : w3.cell? ⟨w.heap.size, 1, none⟩ = some (.slice none 0 0) := by rw [cell_of_row w3 _ 1 _ _ _ hR3]; rfl
      have rF : ∀ i, w3.frozen? ⟨w.heap.size, i, none⟩ = false := fun i => frozen_of_row w3 _ i _ _ hR3
      have HV := hide hv3
      have HF3 := hide hF3
      rw [hln] at c5
      rw [hld] at c4
      clear hv3 hF3 hR3
      go_wp2
      refine bodyPost_ret (v := .tuple #[.agg #[.slice ad p.decls.length cd, .slice an p.nodes.length cn], .int .i64 0, .bool true]) (by simp [results, Tryd.results12, go_sem, *]) rfl ?_
      refine ⟨?_, ?_⟩
      · rw [HR.out]
        have hg : ∀ {e size n : Nat} {v : Value} {xs : List Value}, w3.ownsRow 0 e size v n xs → (∀ g, v.ownBlock = some g → ¬ g < w.heap.size + 1) →
            ((w3.setCell ⟨w.heap.size, 0, none⟩ (.slice ad p.decls.length cd)).setCell ⟨w.heap.size, 1, none⟩ (.slice an p.nodes.length cn)).ownsRow w.heap.size e size v n xs := by
          intro e size n v xs ho hx
          have k1 : w3.grownBy (w3.setCell ⟨w.heap.size, 0, none⟩ (.slice ad p.decls.length cd)) (some w.heap.size) := ⟨rfl, rfl, rfl, by simp, fun k _ hk => heap_setCell_other _ ⟨w.heap.size, 0, none⟩ k _ (fun e => hk (by simp [e]))⟩
          have k2 : (w3.setCell ⟨w.heap.size, 0, none⟩ (.slice ad p.decls.length cd)).grownBy ((w3.setCell ⟨w.heap.size, 0, none⟩ (.slice ad p.decls.length cd)).setCell ⟨w.heap.size, 1, none⟩ (.slice an p.nodes.length cn)) (some w.heap.size) := ⟨rfl, rfl, rfl, by simp, fun k _ hk => heap_setCell_other _ ⟨w.heap.size, 1, none⟩ k _ (fun e => hk (by simp [e]))⟩
          have hne : v.ownBlock ≠ some w.heap.size := fun e => hx _ e (by omega)
          exact own_base ((ho.kept k1 (.inr hne)).kept k2 (.inr hne)) (fun g hg => by have := hx g hg; omega)
        refine ⟨_, _, rfl, hg HV.out.decls HV.out.xd, ?_, ?_⟩
        · have := hg HV.out.nodes HV.out.xn
          rw [hln] at this
          exact this
        · have := HV.out.dn
          rw [hln] at this
          exact this
      · exact ((hB1.trans ((HF3.out.mono (Y := fun k => k < w.heap.size) (fun k hk => by show k < _; omega)).to_below)).setCell (Nat.le_refl _) _).setCell (Nat.le_refl _) _
    · have q1 : (((p.hd (toks s)).kind : Int) != 0) = true := by rw [bne_iff_ne]; omega
      have HKD := hide hk
      clear hk
      go_wp2_with fail
      refine (declaration_any HT.out HDG.out _ _ _ p hP2 hwf HD0.out).mono ?_
      rintro e w3 ⟨hr, hf3⟩
      have hF3 := hF2.trans hf3
      clear hP2 hf3 hF2
      cases hy : declarationF (toks s) p with
      | error k =>
        rw [hy] at hr
        obtain ⟨rfl, p', hp', hk1, hk2, _⟩ := hr
        have HR : Hid (parseF s = .error k) := hide (by
          rw [← HDEC.out]
          cases gk with
          | zero => omega
          | succ m => unfold declsF; rw [if_neg HKD.out, hy])
        have hn' : p'.next < (toks s).length := by omega
        have HK1 := hide hk1
        clear hy hk1
        go_wp2_with fail
        refine (here_any _ _ _ (toks s) p' hp' hn' HT.out.1).mono ?_
        rintro e w4 ⟨rfl, hb4⟩
        have hF4 := hF3.trans (hp'.fr hb4)
        have hR4 := (hF4.block w.heap.size (by omega)).trans hR1
        have r0 : w4.cell? ⟨w.heap.size, 0, none⟩ = some (.slice none 0 0) := by rw [cell_of_row w4 _ 0 _ _ _ hR4]; rfl
        have r1 : w4.cell? ⟨w.heap.size, 1, none⟩ = some (.slice none 0 0) := by rw [cell_of_row w4 _ 1 _ _ _ hR4]; rfl
        have rF : ∀ i, w4.frozen? ⟨w.heap.size, i, none⟩ = false := fun i => frozen_of_row w4 _ i _ _ hR4
        have HF4 := hide hF4
        clear hF3 hF4 hb4 hp' hR4
        go_wp2
        refine bodyPost_ret (v := .tuple #[.agg #[.slice none 0 0, .slice none 0 0], .int .i64 ((p'.hd (toks s)).pos : Int), .bool false]) (by simp [results, Tryd.results12, go_sem, *]) rfl ?_
        refine ⟨?_, ?_⟩
        · rw [HR.out]
          show _ = _
          rw [← HK1.out]
          rfl
        · exact ((hB1.trans ((HF4.out.mono (Y := fun k => k < w.heap.size) (fun k hk => by show k < _; omega)).to_below)).setCell (Nat.le_refl _) _).setCell (Nat.le_refl _) _
      | ok p' =>
        rw [hy] at hr
        obtain ⟨rfl, hp'⟩ := hr
        have hds := declaration_step HT.out hwf HD0.out hy
        have HY := hide hy
        clear hy
        go_wp2_with fail
        go_roundg (gk - 1)
        case measure => omega
        case rel =>
          refine ⟨p', hp', hds.wf, by rw [hds.depth]; exact HD0.out, hF3, by have := hds.lt; omega, ?_⟩
          rw [← HDEC.out]
          cases gk with
          | zero => omega
          | succ m => simp only [declsF, Nat.add_sub_cancel]; rw [if_neg HKD.out, HY.out]

end Go.Proofs.YtmndgoapkmhglaaDoor
