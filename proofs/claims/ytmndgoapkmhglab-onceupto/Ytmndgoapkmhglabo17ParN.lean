import Derived.Deep.LoopGhost
import Derived.Test.Ytmndgoapkmhglabo02BoxC
import Derived.Test.Ytmndgoapkmhglabo16ParM
namespace Go.Proofs.Ytmndgoapkmhglab
open Go.RowKit
attribute [local go_sem ↓] Go.wp_at_zero Go.wp_at_succ
attribute [local go_sem] Try.fieldTok0 Try.fieldTok1 Try.fieldTok2
set_option maxHeartbeats 1000000 in
set_option maxRecDepth 100000 in
theorem find_any (w : World) (q o : Nat) (l : List Dc) (vd : Value) (name : ByteArray) (hc : w.cell? ⟨q, o, none⟩ = some vd) (hown : w.ownsRow 0 126 7 vd l.length (dcCells l)) (hl : l.length ≤ 1501) :
    Calls Try.prog 110 #[.pointer (some ⟨q, o, none⟩), .string name] w fun e w' => e = .returned (.int .i64 (findF l name)) ∧ Below w.heap.size w w' := by
  obtain ⟨av, cap, rfl, hsh⟩ := own_shape hown
  have HO := hide hown
  have HSH := hide hsh
  clear hown hsh
  go_enter Try.func110, Try.ntmps110
  go_wp2
  go_loopw [12] (fun i wr => ∃ k : Nat, k ≤ l.length ∧ i = .int .i64 k ∧ Below w.heap.size w wr ∧ ∀ j (hj : j < k) (hj2 : j < l.length), (l[j]'hj2).name.data.toList ≠ name.data.toList) (fun i _ => l.length - (intOf i).toNat)
  case atStart => exact ⟨0, Nat.zero_le _, rfl, Below.refl _ _, fun j hj => by omega⟩
  case round =>
    obtain ⟨k, hk, rfl, hbel, hne⟩ := hrel
    have HNE := hide hne
    clear hne
    by_cases hlt : k < l.length
    · obtain ⟨g, rfl, _, hg2⟩ := HSH.out (by omega)
      have hcs := dcAt_cells HO.out hlt
      obtain ⟨a, ha⟩ : ∃ a, a = l[k]'hlt := ⟨_, rfl⟩
      rw [← ha] at hcs
      have hcr : ∀ j, j < 7 → wr.cell? ⟨g, k * 7 + j, none⟩ = a.cells[j]? := fun j hj => (hbel.cell (p := ⟨g, k * 7 + j, none⟩) hg2).trans (hcs j hj)
      have x0 := hcr 0 (by omega)
      have x1 := hcr 1 (by omega)
      have x2 := hcr 2 (by omega)
      have x3 := hcr 3 (by omega)
      have x4 := hcr 4 (by omega)
      have x5 := hcr 5 (by omega)
      have x6 := hcr 6 (by omega)
      simp [Dc.cells] at x0 x1 x2 x3 x4 x5 x6
      have j1 : (0 : Int) ≤ (k : Int) := by omega
      have j2 : (k : Int) < (l.length : Int) := by omega
      have HA := hide ha
      clear hcs hcr ha
      by_cases he : a.name.data.toList = name.data.toList
      · have q1 : (a.name.toList == name.toList) = true := by rw [ByteArray.toList_eq, ByteArray.toList_eq]; simpa using he
        have HF : Hid (findF l name = (k : Int)) := hide (findF_hit l name k hlt (by rw [← HA.out]; exact he) (fun j hj => HNE.out j hj (by omega)))
        clear he
        go_wp2
        go_ret
        exact ⟨ret_intN HF.out.symm, hbel.alloc hbel.size _⟩
      · have q1 : (a.name.toList == name.toList) = false := by rw [ByteArray.toList_eq, ByteArray.toList_eq]; simpa using he
        have HE := hide he
        clear he
        go_wp2
        go_roundw
        case rel =>
          refine ⟨k + 1, by omega, by go_num, hbel.alloc hbel.size _, fun j hj hj2 => ?_⟩
          by_cases ej : j = k
          · subst ej; rw [← HA.out]; exact HE.out
          · exact HNE.out j (by omega) hj2
        case measure => simp [intOf]; omega
    · have HF : Hid (findF l name = -1) := hide (findF_miss l name (fun j hj => HNE.out j (by omega) hj))
      go_wp2
      go_ret
      exact ⟨ret_intN HF.out.symm, hbel⟩
def mixB (p : PS) (k : Nat) : PS := { p with nodes := (p.nodes.take k).map (bindF p.decls) ++ p.nodes.drop k }
theorem mixB_zero (p : PS) : mixB p 0 = p := by simp [mixB]
theorem mixB_len (p : PS) (k : Nat) (h : k ≤ p.nodes.length) : (mixB p k).nodes.length = p.nodes.length := by simp [mixB]; omega
theorem mixB_at (p : PS) (k : Nat) (h : k < p.nodes.length) : (mixB p k).nodes[k]? = some (p.nodes[k]'h) := by
  have hl : ((p.nodes.take k).map (bindF p.decls)).length = k := by simp; omega
  show ((p.nodes.take k).map (bindF p.decls) ++ p.nodes.drop k)[k]? = _
  rw [List.getElem?_append_right (by omega), hl, Nat.sub_self, List.getElem?_drop]
  simp [h]
theorem mixB_succ (p : PS) (k : Nat) (h : k < p.nodes.length) : mixB p (k + 1) = { mixB p k with nodes := (mixB p k).nodes.set k (bindF p.decls (p.nodes[k]'h)) } := by
  unfold mixB
  congr 1
  have hl : ((p.nodes.take k).map (bindF p.decls)).length = k := by simp; omega
  rw [List.set_append_right _ _ (by omega), hl, Nat.sub_self, List.take_succ_eq_append_getElem h, List.map_append, List.append_assoc, List.drop_eq_getElem_cons h]
  rfl
theorem ParV.setDecl {w : World} {X : Nat → Prop} {b : Nat} {ts : List Tk} {p : PS} {vt vd : Value} {g cap : Nat} (h : ParV w X b ts p vt vd (.slice (some ⟨g, 0, none⟩) p.nodes.length cap)) {k : Nat} (hk : k < p.nodes.length) (i : Int) :
    ParV (w.setCell ⟨g, k * 11 + 4, none⟩ (.int .i64 i)) X b ts { p with nodes := p.nodes.set k { (p.nodes[k]'hk) with decl := i } } vt vd (.slice (some ⟨g, 0, none⟩) p.nodes.length cap) ∧ Fr X w (w.setCell ⟨g, k * 11 + 4, none⟩ (.int .i64 i)) := by
  obtain ⟨h1, h2⟩ := h.nodes.stored (k * 11 + 4) (.int .i64 i)
  have hlen : (ndCells p.nodes).length = p.nodes.length * 11 := h.nodes.1
  have e : (ndCells p.nodes).set (k * 11 + 4) (.int .i64 i) = ndCells (p.nodes.set k { (p.nodes[k]'hk) with decl := i }) := by
    have e1 : ndCells (p.nodes.set k { (p.nodes[k]'hk) with decl := i }) = (ndCells p.nodes).take (k * 11) ++ ({ (p.nodes[k]'hk) with decl := i } : Nd).cells ++ (ndCells p.nodes).drop (k * 11 + 11) := flat_set Nd.cells 11 nd_len _ p.nodes k hk
    have e2 : ndCells p.nodes = (ndCells p.nodes).take (k * 11) ++ (p.nodes[k]'hk).cells ++ (ndCells p.nodes).drop (k * 11 + 11) := by
      have := flat_set Nd.cells 11 nd_len (p.nodes[k]'hk) p.nodes k hk
      rw [List.set_getElem_self] at this
      exact this
    have hl : ((ndCells p.nodes).take (k * 11)).length = k * 11 := by rw [List.length_take]; omega
    rw [e1]
    conv => lhs; rw [e2]
    rw [List.append_assoc, List.set_append_right _ _ (by omega), hl, show k * 11 + 4 - k * 11 = 4 from by omega, List.set_append_left _ _ (by rw [nd_len]; omega), List.append_assoc]
    rfl
  rw [e] at h1
  have hb : some b ≠ some g := fun e => h.nb (by simp [Value.ownBlock, Option.some.inj e])
  refine ⟨⟨(h2.block b h.lt hb).trans h.at_b, h.toks.kept h2 (.inr fun e => h.tn g e rfl), h.decls.kept h2 (.inr fun e => h.dn g e rfl), ?_, h.tb, h.db, h.nb, h.td, h.tn, h.dn, fun k hk => Nat.lt_of_lt_of_le (h.xlt k hk) h2.size, h.xb, h.xd, h.xn, h.xt⟩, ?_⟩
  · simpa using h1
  · exact ⟨h2.os, h2.tape, h2.output, h2.size, fun j hj => h2.block j (h.xlt j hj) (fun e => h.xn g rfl (by rw [← Option.some.inj e]; exact hj))⟩
theorem cell43 (g k : Nat) (w : World) (v : Value) : (w.setCell ⟨g, k * 11 + 4, none⟩ v).cell? ⟨g, k * 11 + 3, none⟩ = w.cell? ⟨g, k * 11 + 3, none⟩ :=
  World.cell?_setCell_other _ _ _ _ (by intro h; have := congrArg Addr.off h; simp at this)
set_option maxHeartbeats 2000000 in
set_option maxRecDepth 100000 in
theorem bind_any {ts : List Tk} (w : World) (X : Nat → Prop) (b : Nat) (p : PS) (h : Par w X b ts p) (hnl : p.nodes.length ≤ 1501) (hdl : p.decls.length ≤ 1501) :
    Calls Try.prog 81 #[.pointer (some ⟨b, 0, none⟩)] w fun e w' => e = .returned (.tuple #[]) ∧ Par w' X b ts { p with nodes := p.nodes.map (bindF p.decls) } ∧ Fr X w w' := by
  have HP0 := hide h
  obtain ⟨vt0, vd0, vn0, hv0⟩ := h
  have c5 := hv0.cell.2.2.2.2.2
  obtain ⟨av0, cap0, rfl, _⟩ := own_shape hv0.nodes
  clear hv0
  go_enter Try.func81, Try.ntmps81
  go_wp2
  clear c5
  go_loopw [9] (fun i wr => ∃ k : Nat, k ≤ p.nodes.length ∧ i = .int .i64 k ∧ Par wr X b ts (mixB p k) ∧ Fr X w wr) (fun i _ => p.nodes.length - (intOf i).toNat)
  case atStart => exact ⟨0, Nat.zero_le _, rfl, by rw [mixB_zero]; exact HP0.out, Fr.refl _ _⟩
  case round =>
    obtain ⟨k, hk, rfl, hpr, hfr⟩ := hrel
    by_cases hlt : k < p.nodes.length
    · obtain ⟨vt, vd, vn, hv⟩ := hpr
      have hml := mixB_len p k hk
      have hkm : k < (mixB p k).nodes.length := by omega
      have c5 := hv.cell.2.2.2.2.2
      have c4 := hv.cell.2.2.2.2.1
      have hdec := hv.decls
      have lb := hv.lt
      obtain ⟨g, cap, rfl, _, glt⟩ := hv.nodes.form (by omega)
      have nbg : g ≠ b := by rintro rfl; exact hv.nb rfl
      have nbg' := nbg.symm
      have c43 := cell43 g k
      have hcs := ndAt_cells hv.nodes hkm
      have yF : ∀ i, wr.frozen? ⟨g, i, none⟩ = false := fun i => hv.nodes.frozenAt i
      have hat : (mixB p k).nodes[k]'hkm = p.nodes[k]'hlt := by
        have := mixB_at p k hlt
        rw [List.getElem?_eq_getElem hkm] at this
        exact Option.some.inj this
      rw [hat] at hcs
      obtain ⟨a, ha⟩ : ∃ a, a = p.nodes[k]'hlt := ⟨_, rfl⟩
      rw [← ha] at hcs
      have x0 := hcs 0 (by omega)
      have x3 := hcs 3 (by omega)
      have x4 := hcs 4 (by omega)
      simp [Nd.cells] at x0 x3 x4
      rw [hml] at c5
      have j1 : (0 : Int) ≤ (k : Int) := by omega
      have j2 : (k : Int) < (p.nodes.length : Int) := by omega
      have HS := hide (mixB_succ p k hlt)
      have HV := hide hv
      have HA := hide ha
      have HAT := hide hat
      clear hv hcs ha hat
      by_cases hk2 : a.kind = 2
      · have q1 : ((a.kind : Int) == 2) = true := by rw [hk2]; rfl
        have HK2 := hide hk2
        clear hk2
        go_wp2_with fail
        go_region_held3 (fun w' => w'.cell? ⟨b, 5, none⟩ = some (.slice (some ⟨g, 0, none⟩) p.nodes.length cap) ∧ w'.cell? ⟨g, k * 11 + 3, none⟩ = some (.string a.name)) (go_keep)
          ((go_at_call 110; refine (find_any _ b 4 (mixB p k).decls vd a.name ?_ ?_ hdl).mono ?_; (simpa using c4); (exact hdec.drew); rintro e w' ⟨rfl, hbelF⟩; have kt := (hbelF.cell (p := ⟨g, k * 11 + 4, none⟩) (by simpa using glt)).trans x4; have kf := (hbelF.frozen (p := ⟨g, k * 11 + 4, none⟩) (by simpa using glt)).trans (yF _); have kb := (hbelF.cell (p := ⟨b, 5, none⟩) (by simpa using lb)).trans c5; have kn := (hbelF.cell (p := ⟨g, k * 11 + 3, none⟩) (by simpa using glt)).trans x3))
        rename_i hHeld
        clear hHeld
        have hv' : ParV w' X b ts (mixB p k) vt vd (.slice (some ⟨g, 0, none⟩) (mixB p k).nodes.length cap) := (HV.out.below ((Below.refl _ _).drew)).below hbelF
        have hset := hv'.setDecl hkm (findF (mixB p k).decls a.name)
        have HSET := hide hset
        have HBF := hide hbelF
        clear hv' hset hbelF kt kf kb kn c4 c5 x0 x3 x4 yF
        go_wp2
        go_roundw
        case rel =>
          refine ⟨k + 1, by omega, by go_num, ?_, ?_⟩
          · rw [HS.out]
            have e : bindF p.decls (p.nodes[k]'hlt) = { (mixB p k).nodes[k]'hkm with decl := findF (mixB p k).decls a.name } := by
              rw [HAT.out, ← HA.out]; unfold bindF; rw [if_pos HK2.out]; rfl
            rw [e]
            exact ⟨_, _, _, HSET.out.1⟩
          · exact (hfr.trans (Fr.of_below (((Below.refl _ _).drew).trans HBF.out) HV.out.xlt)).trans HSET.out.2
        case measure => simp [intOf]; omega
      · have q1 : ((a.kind : Int) == 2) = false := by rw [beq_eq_false_iff_ne]; omega
        have HK2 := hide hk2
        clear hk2
        go_wp2
        go_roundw
        case rel =>
          refine ⟨k + 1, by omega, by go_num, ?_, hfr⟩
          rw [HS.out]
          have e : bindF p.decls (p.nodes[k]'hlt) = (mixB p k).nodes[k]'hkm := by
            rw [HAT.out, ← HA.out]; unfold bindF; rw [if_neg HK2.out]
          rw [e, List.set_getElem_self]
          exact ⟨_, _, _, HV.out⟩
        case measure => simp [intOf]; omega
    · have ek : k = p.nodes.length := by omega
      have e : mixB p k = { p with nodes := p.nodes.map (bindF p.decls) } := by rw [ek]; simp [mixB]
      rw [e] at hpr
      have HPR := hide hpr
      have HFR := hide hfr
      clear hpr hfr e ek
      go_wp2
      go_end0
      exact ⟨rfl, HPR.out, HFR.out⟩
end Go.Proofs.Ytmndgoapkmhglab
