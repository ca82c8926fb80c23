import Derived.BigRegion
import Derived.Deep.RegionLaw
import Derived.Test.Ytmndgoapkmhglabc03ParA
namespace Go.Proofs.Ytmndgoapkmhglab
open Go.RowKit
attribute [local go_sem ↓] Go.wp_at_zero Go.wp_at_succ
attribute [local go_sem] Try.fieldTok0 Try.fieldTok1 Try.fieldTok2

set_option maxHeartbeats 1000000 in
set_option maxRecDepth 100000 in
theorem take_yes (w : World) (X : Nat → Prop) (b : Nat) (ts : List Tk) (p : PS) (l : List UInt8) (h : Par w X b ts p) (hn : p.next < ts.length) (hl : ts.length ≤ 1501) (he : (p.hd ts).l = l) :
    Calls Try.prog 129 #[.pointer (some ⟨b, 0, none⟩), .string ⟨l.toArray⟩] w fun e w' => e = .returned (.bool true) ∧ Par w' X b ts (p.adv ts) ∧ Fr X w w' := by
  have hX := h.xlt
  have q1 := str_yes he
  clear he
  go_enter Try.func129, Try.ntmps129
  go_wp2_with fail
  refine (here_any w X b ts p h hn hl).mono ?_
  rintro e w1 ⟨rfl, hb1⟩
  go_wp2_with fail
  refine (step_any w1 X b ts p (h.below hb1) hn hl).mono ?_
  rintro e w2 ⟨rfl, hp2, hb2⟩
  go_wp2_with fail
  go_ret
  exact ⟨rfl, hp2, (Fr.of_below hb1 hX).trans hb2⟩

set_option maxHeartbeats 1000000 in
set_option maxRecDepth 100000 in
theorem take_no (w : World) (X : Nat → Prop) (b : Nat) (ts : List Tk) (p : PS) (l : List UInt8) (h : Par w X b ts p) (hn : p.next < ts.length) (hl : ts.length ≤ 1501) (he : (p.hd ts).l ≠ l) :
    Calls Try.prog 129 #[.pointer (some ⟨b, 0, none⟩), .string ⟨l.toArray⟩] w fun e w' => e = .returned (.bool false) ∧ Par w' X b ts p ∧ Fr X w w' := by
  have hX := h.xlt
  have q1 := str_no he
  clear he
  go_enter Try.func129, Try.ntmps129
  go_wp2_with fail
  refine (here_any w X b ts p h hn hl).mono ?_
  rintro e w1 ⟨rfl, hb1⟩
  go_wp2_with fail
  go_ret
  exact ⟨rfl, h.below hb1, Fr.of_below hb1 hX⟩

theorem take_any (w : World) (X : Nat → Prop) (b : Nat) (ts : List Tk) (p : PS) (l : List UInt8) (h : Par w X b ts p) (hn : p.next < ts.length) (hl : ts.length ≤ 1501) :
    Calls Try.prog 129 #[.pointer (some ⟨b, 0, none⟩), .string ⟨l.toArray⟩] w fun e w' =>
      Res w' X b ts p.delays e (fun _ => .bool true) (fun e => e = .returned (.bool false)) (p.take ts l) ∧ Fr X w w' := by
  by_cases he : (p.hd ts).l = l
  · refine (take_yes w X b ts p l h hn hl he).mono ?_
    rintro e w' ⟨h1, h2, h3⟩
    refine ⟨?_, h3⟩
    unfold PS.take
    rw [if_pos he]
    exact ⟨h1, h2⟩
  · refine (take_no w X b ts p l h hn hl he).mono ?_
    rintro e w' ⟨h1, h2, h3⟩
    refine ⟨?_, h3⟩
    unfold PS.take
    rw [if_neg he]
    exact ⟨h1, p, h2, rfl, hn, rfl⟩

set_option maxHeartbeats 1000000 in
theorem valueOf_any (t : ByteArray) (w : World) (ht : t.size ≤ 18) (hd : ∀ c ∈ t.data.toList, 48 ≤ c.toNat ∧ c.toNat ≤ 57) :
    Calls Try.prog 135 #[.string t] w fun e w' => e = .returned (.int .i64 (valOf t.data.toList : Nat)) ∧ w = w' := by
  go_enter Try.func135, Try.ntmps135
  go_wp2
  go_loop [3, 4] (fun v i => ∃ k : Nat, k ≤ t.size ∧ i = .int .i64 k ∧ v = .int .i64 (valN t.data.toList k : Nat)) (fun _ i => t.size - (intOf i).toNat)
  case atStart => exact ⟨0, by omega, rfl, rfl⟩
  case round =>
    obtain ⟨k, hk, rfl, rfl⟩ := hrel
    by_cases hlt : k < t.size
    · have hl : k < t.data.toList.length := by rw [size_len]; exact hlt
      have hb := valN_17 t.data.toList hd k (by omega) (by omega)
      have HV : Hid (valN t.data.toList (k + 1) = valN t.data.toList k * 10 + ((t[k]'hlt).toNat - 48)) := hide (by rw [valN_succ _ k hl]; rfl)
      have h48 : 48 ≤ (t[k]'hlt).toNat ∧ (t[k]'hlt).toNat ≤ 57 := hd _ (List.getElem_mem (h := hl))
      obtain ⟨h48, h57⟩ := h48
      clear hd
      generalize valN t.data.toList k = V at *
      go_wp2
      go_round
      case rel => exact ⟨k + 1, by omega, by go_num, by rw [HV.out]; go_num⟩
      case measure => simp [intOf]; omega
    · go_wp2
      go_ret
      exact ⟨ret_intN (by rw [← valN_all, size_len, show k = t.size by omega]), rfl⟩

set_option maxHeartbeats 1000000 in
theorem isLiteral_any (n : Nd) (w : World) :
    Calls Try.prog 143 #[n.val] w fun e w' => e = .returned (.bool (isLit n)) ∧ Below w.heap.size w w' := by
  by_cases h0 : n.kind = 0
  · have HF : Hid (isLit n = true) := hide (by simp [isLit, h0])
    have q0 : ((n.kind : Int) == 0) = true := by rw [h0]; rfl
    clear h0
    go_enter Try.func143, Try.ntmps143
    go_wp2
    go_ret
    exact ⟨by rw [HF.out]; rfl, (Below.refl _ _).alloc (Nat.le_refl _) _⟩
  · have q0 : ((n.kind : Int) == 0) = false := by rw [beq_eq_false_iff_ne]; omega
    by_cases h1 : n.kind = 1
    · have HF : Hid (isLit n = true) := hide (by simp [isLit, h1])
      have q1 : ((n.kind : Int) == 1) = true := by rw [h1]; rfl
      clear h0 h1
      go_enter Try.func143, Try.ntmps143
      go_wp2
      go_ret
      exact ⟨by rw [HF.out]; rfl, (Below.refl _ _).alloc (Nat.le_refl _) _⟩
    · have HF : Hid (isLit n = false) := hide (by simp [isLit, h0, h1])
      have q1 : ((n.kind : Int) == 1) = false := by rw [beq_eq_false_iff_ne]; omega
      clear h0 h1
      go_enter Try.func143, Try.ntmps143
      go_wp2
      go_ret
      exact ⟨by rw [HF.out]; rfl, (Below.refl _ _).alloc (Nat.le_refl _) _⟩

/-- what the program's table of signs answers. -/
def opVal (o : Option Nat) : Value := match o with
  | some k => .tuple #[.int .i64 (k : Int), .bool true]
  | none => .tuple #[.int .i64 0, .bool false]

set_option maxHeartbeats 2000000 in
theorem operation_any (t : ByteArray) (w : World) :
    Calls Try.prog 145 #[.string t] w fun e w' => e = .returned (opVal (opOf t.data.toList)) ∧ w = w' := by
  have hc : t.data.toList = [43] ∨ t.data.toList = [45] ∨ t.data.toList = [42] ∨ t.data.toList = [47] ∨ t.data.toList = [60] ∨ t.data.toList = [61] ∨ t.data.toList = [38] ∨ t.data.toList = [124] ∨
      (t.data.toList ≠ [43] ∧ t.data.toList ≠ [45] ∧ t.data.toList ≠ [42] ∧ t.data.toList ≠ [47] ∧ t.data.toList ≠ [60] ∧ t.data.toList ≠ [61] ∧ t.data.toList ≠ [38] ∧ t.data.toList ≠ [124]) := by
    simp only [Ne]
    generalize t.data.toList = l
    by_cases h1 : l = [43]
    · exact .inl h1
    by_cases h2 : l = [45]
    · exact .inr (.inl h2)
    by_cases h3 : l = [42]
    · exact .inr (.inr (.inl h3))
    by_cases h4 : l = [47]
    · exact .inr (.inr (.inr (.inl h4)))
    by_cases h5 : l = [60]
    · exact .inr (.inr (.inr (.inr (.inl h5))))
    by_cases h6 : l = [61]
    · exact .inr (.inr (.inr (.inr (.inr (.inl h6)))))
    by_cases h7 : l = [38]
    · exact .inr (.inr (.inr (.inr (.inr (.inr (.inl h7))))))
    by_cases h8 : l = [124]
    · exact .inr (.inr (.inr (.inr (.inr (.inr (.inr (.inl h8)))))))
    exact .inr (.inr (.inr (.inr (.inr (.inr (.inr (.inr ⟨h1, h2, h3, h4, h5, h6, h7, h8⟩)))))))
  rcases hc with h | h | h | h | h | h | h | h | ⟨h1, h2, h3, h4, h5, h6, h7, h8⟩
  all_goals try (
    have HF := hide (congrArg opOf h)
    have et := str_yes h
    clear h
    go_enter Try.func145, Try.ntmps145
    go_wp2
    go_ret2
    exact ⟨by rw [HF.out]; rfl, rfl⟩)
  have HF : Hid (opOf t.data.toList = none) := hide (by unfold opOf; rw [if_neg h1, if_neg h2, if_neg h3, if_neg h4, if_neg h5, if_neg h6, if_neg h7, if_neg h8])
  have q1 := str_no h1
  have q2 := str_no h2
  have q3 := str_no h3
  have q4 := str_no h4
  have q5 := str_no h5
  have q6 := str_no h6
  have q7 := str_no h7
  have q8 := str_no h8
  clear h1 h2 h3 h4 h5 h6 h7 h8
  go_enter Try.func145, Try.ntmps145
  go_wp2
  go_ret2
  exact ⟨by rw [HF.out]; rfl, rfl⟩

end Go.Proofs.Ytmndgoapkmhglab

namespace Go.Proofs.Ytmndgoapkmhglab
open Go.RowKit
attribute [local go_sem ↓] Go.wp_at_zero Go.wp_at_succ
attribute [local go_sem] Try.fieldTok0 Try.fieldTok1 Try.fieldTok2

theorem Try.infoNode : (Try.prog.info? 171).map (fun i => (i.zero, i.size, i.bytes)) = some (some (.agg #[.int .i64 0, .int .i64 0, .int .i64 0, .string ⟨#[]⟩, .int .i64 0, .int .i64 0, .int .i64 0, .int .i64 0, .int .i64 0, .bool false, .bool false]), 11, 88) := by kernel_rfl
theorem Try.infoDecl : (Try.prog.info? 126).map (fun i => (i.zero, i.size, i.bytes)) = some (some (.agg #[.int .i64 0, .int .i64 0, .string ⟨#[]⟩, .int .i64 0, .int .i64 0, .int .i64 0, .int .i64 0]), 7, 64) := by kernel_rfl

theorem set5 (a0 a1 a2 a3 a4 a5 u : Value) : (#[a0, a1, a2, a3, a4, a5] : Array Value).setIfInBounds 5 u = #[a0, a1, a2, a3, a4, u] := by simp
theorem set4 (a0 a1 a2 a3 a4 a5 u : Value) : (#[a0, a1, a2, a3, a4, a5] : Array Value).setIfInBounds 4 u = #[a0, a1, a2, a3, u, a5] := by simp

/-- the nodes' row has grown, and its new value is stored. -/
theorem ParV.newNodes {w w1 : World} {X : Nat → Prop} {b : Nat} {ts : List Tk} {p : PS} {vt vd vn : Value} {g cap len : Nat} {l : List Nd} (h : ParV w X b ts p vt vd vn) (hgrow : w.grownBy w1 vn.ownBlock)
    (hown : w1.ownsRow 0 171 11 (.slice (some ⟨g, 0, none⟩) len cap) len (ndCells l)) (hlen : l.length = len) (hat : vn.ownBlock = some g ∨ w.heap.size ≤ g) :
    ParV (w1.setCell ⟨b, 5, none⟩ (.slice (some ⟨g, 0, none⟩) len cap)) X b ts { p with nodes := l } vt vd (.slice (some ⟨g, 0, none⟩) len cap) ∧ Fr X w (w1.setCell ⟨b, 5, none⟩ (.slice (some ⟨g, 0, none⟩) len cap)) := by
  have gb : g ≠ b := by
    rcases hat with hg | hg
    · rintro rfl; exact h.nb hg
    · have := h.lt; omega
  have hg2 : w1.grownBy (w1.setCell ⟨b, 5, none⟩ (.slice (some ⟨g, 0, none⟩) len cap)) (some b) := ⟨rfl, rfl, rfl, by simp, fun k _ hk => heap_setCell_other w1 ⟨b, 5, none⟩ k _ (fun e => hk (by simp [e]))⟩
  have keep : ∀ {e size n : Nat} {v : Value} {xs : List Value}, w.ownsRow 0 e size v n xs → v.ownBlock ≠ some b → (∀ k, v.ownBlock = some k → vn.ownBlock ≠ some k) →
      (w1.setCell ⟨b, 5, none⟩ (.slice (some ⟨g, 0, none⟩) len cap)).ownsRow 0 e size v n xs := by
    intro e size n v xs ho hb hk
    refine (ho.kept hgrow ?_).kept hg2 (.inr hb)
    cases hv : v.ownBlock with
    | none => exact .inl rfl
    | some k => exact .inr (fun e => hk k hv e.symm)
  have hbb : w1.heap[b]? = w.heap[b]? := hgrow.block b h.lt (Ne.symm h.nb)
  refine ⟨⟨?_, keep h.toks h.tb h.tn, keep h.decls h.db h.dn, ?_, h.tb, h.db, ?_, h.td, ?_, ?_, ?_, h.xb, h.xd, ?_, h.xt⟩, ?_⟩
  · rw [heap_setCell_same w1 b 5 _ _ _ (hbb.trans h.at_b), set5]
  · rw [hlen]
    exact hown.kept hg2 (.inr (by simp [Value.ownBlock, gb]))
  · simp [Value.ownBlock, gb]
  · intro k hk
    simp only [Value.ownBlock, ne_eq, Option.some.injEq]
    rintro rfl
    rcases hat with hg | hg
    · exact h.tn g hk hg
    · have := (h.toks.lt g hk).2; omega
  · intro k hk
    simp only [Value.ownBlock, ne_eq, Option.some.injEq]
    rintro rfl
    rcases hat with hg | hg
    · exact h.dn g hk hg
    · have := (h.decls.lt g hk).2; omega
  · intro k hk
    have := h.xlt k hk
    have := hgrow.size
    simp; omega
  · intro k hk hx
    simp only [Value.ownBlock, Option.some.injEq] at hk
    subst hk
    rcases hat with hg | hg
    · exact h.xn g hg hx
    · have := h.xlt g hx; omega
  · exact (Fr.mk hgrow.os hgrow.tape hgrow.output hgrow.size (fun k hk => hgrow.block k (h.xlt k hk) (fun e => h.xn k e.symm hk))).setCell h.xb _

theorem ParV.newDecls {w w1 : World} {X : Nat → Prop} {b : Nat} {ts : List Tk} {p : PS} {vt vd vn : Value} {g cap len : Nat} {l : List Dc} (h : ParV w X b ts p vt vd vn) (hgrow : w.grownBy w1 vd.ownBlock)
    (hown : w1.ownsRow 0 126 7 (.slice (some ⟨g, 0, none⟩) len cap) len (dcCells l)) (hlen : l.length = len) (hat : vd.ownBlock = some g ∨ w.heap.size ≤ g) :
    ParV (w1.setCell ⟨b, 4, none⟩ (.slice (some ⟨g, 0, none⟩) len cap)) X b ts { p with decls := l } vt (.slice (some ⟨g, 0, none⟩) len cap) vn ∧ Fr X w (w1.setCell ⟨b, 4, none⟩ (.slice (some ⟨g, 0, none⟩) len cap)) := by
  have gb : g ≠ b := by
    rcases hat with hg | hg
    · rintro rfl; exact h.db hg
    · have := h.lt; omega
  have hg2 : w1.grownBy (w1.setCell ⟨b, 4, none⟩ (.slice (some ⟨g, 0, none⟩) len cap)) (some b) := ⟨rfl, rfl, rfl, by simp, fun k _ hk => heap_setCell_other w1 ⟨b, 4, none⟩ k _ (fun e => hk (by simp [e]))⟩
  have keep : ∀ {e size n : Nat} {v : Value} {xs : List Value}, w.ownsRow 0 e size v n xs → v.ownBlock ≠ some b → (∀ k, v.ownBlock = some k → vd.ownBlock ≠ some k) →
      (w1.setCell ⟨b, 4, none⟩ (.slice (some ⟨g, 0, none⟩) len cap)).ownsRow 0 e size v n xs := by
    intro e size n v xs ho hb hk
    refine (ho.kept hgrow ?_).kept hg2 (.inr hb)
    cases hv : v.ownBlock with
    | none => exact .inl rfl
    | some k => exact .inr (fun e => hk k hv e.symm)
  have hbb : w1.heap[b]? = w.heap[b]? := hgrow.block b h.lt (Ne.symm h.db)
  refine ⟨⟨?_, keep h.toks h.tb h.td, ?_, keep h.nodes h.nb (fun k hk hd => h.dn k hd hk), h.tb, ?_, h.nb, ?_, h.tn, ?_, ?_, h.xb, ?_, h.xn, h.xt⟩, ?_⟩
  · rw [heap_setCell_same w1 b 4 _ _ _ (hbb.trans h.at_b), set4]
  · rw [hlen]
    exact hown.kept hg2 (.inr (by simp [Value.ownBlock, gb]))
  · simp [Value.ownBlock, gb]
  · intro k hk
    simp only [Value.ownBlock, ne_eq, Option.some.injEq]
    rintro rfl
    rcases hat with hg | hg
    · exact h.td g hk hg
    · have := (h.toks.lt g hk).2; omega
  · intro k hk
    simp only [Value.ownBlock, Option.some.injEq] at hk
    subst hk
    rcases hat with hg | hg
    · exact h.dn g hg
    · intro hv
      have := (h.nodes.lt g hv).2; omega
  · intro k hk
    have := h.xlt k hk
    have := hgrow.size
    simp; omega
  · intro k hk hx
    simp only [Value.ownBlock, Option.some.injEq] at hk
    subst hk
    rcases hat with hg | hg
    · exact h.xd g hg hx
    · have := h.xlt g hx; omega
  · exact (Fr.mk hgrow.os hgrow.tape hgrow.output hgrow.size (fun k hk => hgrow.block k (h.xlt k hk) (fun e => h.xd k e.symm hk))).setCell h.xb _

/-- a store into a block that is none of the parser's. -/
theorem ParV.other {w : World} {X : Nat → Prop} {b N i : Nat} {u : Value} {ts : List Tk} {p : PS} {vt vd vn : Value} (h : ParV w X b ts p vt vd vn) (hb : b ≠ N) (ht : vt.ownBlock ≠ some N) (hd : vd.ownBlock ≠ some N) (hn : vn.ownBlock ≠ some N) :
    ParV (w.setCell ⟨N, i, none⟩ u) X b ts p vt vd vn := by
  have hg : w.grownBy (w.setCell ⟨N, i, none⟩ u) (some N) := ⟨rfl, rfl, rfl, by simp, fun k _ hk => heap_setCell_other w ⟨N, i, none⟩ k u (fun e => hk (by simp [e]))⟩
  exact ⟨(heap_setCell_other w ⟨N, i, none⟩ b u hb).trans h.at_b, h.toks.kept hg (.inr ht), h.decls.kept hg (.inr hd), h.nodes.kept hg (.inr hn), h.tb, h.db, h.nb, h.td, h.tn, h.dn, fun k hk => by simpa using h.xlt k hk, h.xb, h.xd, h.xn, h.xt⟩

theorem nodeRow (w : World) (N : Nat) (a0 a1 a2 a3 a4 a5 a6 a7 a8 a9 a10 v1 v9 v10 : Value) (t : TypeId) (h : w.heap[N]? = some (.cells #[a0, a1, a2, a3, a4, a5, a6, a7, a8, a9, a10] t)) :
    (((w.setCell ⟨N, 1, none⟩ v1).setCell ⟨N, 9, none⟩ v9).setCell ⟨N, 10, none⟩ v10).heap[N]? = some (.cells #[a0, v1, a2, a3, a4, a5, a6, a7, a8, v9, v10] t) := by
  have h1 := heap_setCell_same w N 1 _ _ v1 h
  have h2 := heap_setCell_same _ N 9 _ _ v9 h1
  have h3 := heap_setCell_same _ N 10 _ _ v10 h2
  rw [h3]; simp

set_option maxHeartbeats 4000000 in
set_option maxRecDepth 100000 in
theorem add_any (w : World) (X : Nat → Prop) (b : Nat) (ts : List Tk) (p : PS) (n : Nd) (h : Par w X b ts p) (hn : p.next < ts.length) (hl : ts.length ≤ 1501) (hnl : p.nodes.length ≤ 1501) :
    Calls Try.prog 138 #[.pointer (some ⟨b, 0, none⟩), n.val] w fun e w' =>
      e = .returned (.int .i64 (p.nodes.length : Int)) ∧ Par w' X b ts (p.add ts n) ∧ Fr X w w' := by
  have HXL := hide h.xlt
  obtain ⟨i0, hi0, hz0, hz1, hz2⟩ := info_parts Try.infoNode
  go_enter Try.func138, Try.ntmps138
  go_wp2_with fail
  refine (here_any _ X b ts p (h.below ((Below.refl _ _).alloc (Nat.le_refl _) _)) hn hl).mono ?_
  rintro e w1 ⟨rfl, hb1⟩
  have hblk : w1.heap[w.heap.size]? = some (.cells #[.int .i64 (n.kind : Int), .int .i64 (n.pos : Int), .int .i64 (n.value : Int), .string n.name, .int .i64 n.decl, .int .i64 (n.op : Int), .int .i64 (n.a : Int), .int .i64 (n.b : Int), .int .i64 (n.c : Int), .bool n.delayed, .bool n.behind] 171) :=
    (hb1.block _ (by simp)).trans (heap_alloc_new w _)
  have hBe1 : Below w.heap.size w w1 := ((Below.refl _ _).alloc (Nat.le_refl _) _).trans (hb1.mono (by simp))
  have hN1 : w.heap.size < w1.heap.size := by have := hb1.size; simp at this; omega
  obtain ⟨vt, vd, vn, hp0⟩ := h
  have hp : ParV w1 X b ts p vt vd vn := hp0.below hBe1
  have hbN : b < w.heap.size := hp0.lt
  obtain ⟨g, cap, rfl, _, glt⟩ := hp0.toks.form (by omega)
  have on : vn.ownBlock ≠ some w.heap.size := fun hk => by have := (hp0.nodes.lt _ hk).2; omega
  have od : vd.ownBlock ≠ some w.heap.size := fun hk => by have := (hp0.decls.lt _ hk).2; omega
  have ot : (Value.slice (some ⟨g, 0, none⟩) ts.length cap).ownBlock ≠ some w.heap.size := fun hk => by have := (hp0.toks.lt _ hk).2; omega
  clear hb1 hp0
  obtain ⟨c0, c1, _, c3, _, c5⟩ := hp.cell
  have f5 := hp.froz 5
  generalize w.heap.size = N at *
  have d0 := cell_of_row w1 N 0 _ _ _ hblk
  have d1 := cell_of_row w1 N 1 _ _ _ hblk
  have d2 := cell_of_row w1 N 2 _ _ _ hblk
  have d3 := cell_of_row w1 N 3 _ _ _ hblk
  have d4 := cell_of_row w1 N 4 _ _ _ hblk
  have d5 := cell_of_row w1 N 5 _ _ _ hblk
  have d6 := cell_of_row w1 N 6 _ _ _ hblk
  have d7 := cell_of_row w1 N 7 _ _ _ hblk
  have d8 := cell_of_row w1 N 8 _ _ _ hblk
  have d9 := cell_of_row w1 N 9 _ _ _ hblk
  have d10 := cell_of_row w1 N 10 _ _ _ hblk
  have g1 := frozen_of_row w1 N 1 _ _ hblk
  have g9 := frozen_of_row w1 N 9 _ _ hblk
  have g10 := frozen_of_row w1 N 10 _ _ hblk
  simp at d0 d1 d2 d3 d4 d5 d6 d7 d8 d9 d10
  have nb1 : N ≠ b := by omega
  have nb2 : b ≠ N := by omega
  have ng1 : N ≠ g := by omega
  have ng2 : g ≠ N := by omega
  have HA : Hid (p.add ts n = { p with nodes := p.nodes ++ [{ n with pos := (p.hd ts).pos, delayed := decide (0 < p.delays), behind := decide (0 < p.next) && ((tkAt ts (p.next - 1)).l == kFby) }] }) := hide rfl
  obtain ⟨bh, hbh⟩ : ∃ bh, bh = (decide (0 < p.next) && ((tkAt ts (p.next - 1)).l == kFby)) := ⟨_, rfl⟩
  rw [← hbh] at HA
  rcases Nat.eq_zero_or_pos p.next with hz | hpos
  · have qb : bh = false := by rw [hbh, hz]; rfl
    subst qb
    have HP := hide hp
    have HBLK := hide hblk
    clear hp hblk
    have c1' : w1.cell? ⟨b, 1, none⟩ = some (.int .i64 0) := by rw [c1, hz]; rfl
    have t2 := trivial
    clear c1 hbh hz
    go_wp2_with fail
    go_big_region
    have qb := trivial
    obtain ⟨w2, hw2⟩ : ∃ w2, w2 = (((w1.setCell ⟨N, 1, none⟩ (.int .i64 ((p.hd ts).pos : Int))).setCell ⟨N, 9, none⟩ (.bool (decide (0 < p.delays)))).setCell ⟨N, 10, none⟩ (.bool false)).drew := ⟨_, rfl⟩
    have hblk2 : w2.heap[N]? = some (.cells #[.int .i64 (n.kind : Int), .int .i64 ((p.hd ts).pos : Int), .int .i64 (n.value : Int), .string n.name, .int .i64 n.decl, .int .i64 (n.op : Int), .int .i64 (n.a : Int), .int .i64 (n.b : Int), .int .i64 (n.c : Int), .bool (decide (0 < p.delays)), .bool false] 171) := by
      rw [hw2]; exact nodeRow w1 N _ _ _ _ _ _ _ _ _ _ _ _ _ _ _ HBLK.out
    have hp2 : ParV w2 X b ts p (.slice (some ⟨g, 0, none⟩) ts.length cap) vd vn := by
      rw [hw2]; exact ((((HP.out.other nb2 ot od on).other nb2 ot od on).other nb2 ot od on)).below ((Below.refl _ _).drew)
    have hBe2 : Below N w w2 := by
      rw [hw2]; exact ((((hBe1.setCell (Nat.le_refl _) _).setCell (Nat.le_refl _) _).setCell (Nat.le_refl _) _)).drew
    have hN2 : N < w2.heap.size := by rw [hw2]; simpa using hN1
    rw [← hw2]
    clear hw2 HP HBLK c0 c1' c3 c5 f5 d0 d1 d2 d3 d4 d5 d6 d7 d8 d9 d10 g1 g9 g10 t2 hBe1 hN1 qb
    obtain ⟨_, _, _, _, _, c5⟩ := hp2.cell
    have f5 := hp2.froz 5
    have fa : ∀ o, (w2.alloc o).frozen? ⟨b, 5, none⟩ = false := fun o => by rw [World.frozen?_alloc_past _ _ _ hp2.lt]; exact f5
    have ca : ∀ o, (w2.alloc o).cell? ⟨b, 5, none⟩ = some vn := fun o => by rw [World.cell?_alloc_past _ _ _ hp2.lt]; exact c5
    have nbv := hp2.nb
    have hown := hp2.nodes
    have lb := hp2.lt
    have d0 : w2.cell? ⟨N, 0, none⟩ = some (.int .i64 (n.kind : Int)) := by rw [cell_of_row w2 N 0 _ _ _ hblk2]; rfl
    have d1 : w2.cell? ⟨N, 1, none⟩ = some (.int .i64 ((p.hd ts).pos : Int)) := by rw [cell_of_row w2 N 1 _ _ _ hblk2]; rfl
    have d2 : w2.cell? ⟨N, 2, none⟩ = some (.int .i64 (n.value : Int)) := by rw [cell_of_row w2 N 2 _ _ _ hblk2]; rfl
    have d3 : w2.cell? ⟨N, 3, none⟩ = some (.string n.name) := by rw [cell_of_row w2 N 3 _ _ _ hblk2]; rfl
    have d4 : w2.cell? ⟨N, 4, none⟩ = some (.int .i64 n.decl) := by rw [cell_of_row w2 N 4 _ _ _ hblk2]; rfl
    have d5 : w2.cell? ⟨N, 5, none⟩ = some (.int .i64 (n.op : Int)) := by rw [cell_of_row w2 N 5 _ _ _ hblk2]; rfl
    have d6 : w2.cell? ⟨N, 6, none⟩ = some (.int .i64 (n.a : Int)) := by rw [cell_of_row w2 N 6 _ _ _ hblk2]; rfl
    have d7 : w2.cell? ⟨N, 7, none⟩ = some (.int .i64 (n.b : Int)) := by rw [cell_of_row w2 N 7 _ _ _ hblk2]; rfl
    have d8 : w2.cell? ⟨N, 8, none⟩ = some (.int .i64 (n.c : Int)) := by rw [cell_of_row w2 N 8 _ _ _ hblk2]; rfl
    have d9 : w2.cell? ⟨N, 9, none⟩ = some (.bool (decide (0 < p.delays))) := by rw [cell_of_row w2 N 9 _ _ _ hblk2]; rfl
    have d10 : w2.cell? ⟨N, 10, none⟩ = some (.bool false) := by rw [cell_of_row w2 N 10 _ _ _ hblk2]; rfl
    have HP := hide hp2
    clear hp2 hblk2
    go_wp2_with fail
    go_region_law ((refine step_append_lies _ (by rfl) _ _ _ (by rfl) 0 171 i0 _ 11 88 Try.underlying68 hi0 hz0 hz1 hz2 rfl (by omega) vn p.nodes.length (ndCells p.nodes) (by rfl) ((hown.alloc _).drew) ⟨w2.heap.size, 0, none⟩ 1 1 [.int .i64 (n.kind : Int), .int .i64 ((p.hd ts).pos : Int), .int .i64 (n.value : Int), .string n.name, .int .i64 n.decl, .int .i64 (n.op : Int), .int .i64 (n.a : Int), .int .i64 (n.b : Int), .int .i64 (n.c : Int), .bool (decide (0 < p.delays)), .bool false] (by rfl) (by rfl) (World.news_of_block (cs := #[.int .i64 (n.kind : Int), .int .i64 ((p.hd ts).pos : Int), .int .i64 (n.value : Int), .string n.name, .int .i64 n.decl, .int .i64 (n.op : Int), .int .i64 (n.a : Int), .int .i64 (n.b : Int), .int .i64 (n.c : Int), .bool (decide (0 < p.delays)), .bool false]) (t := 171) (fr := (0, 0)) (heap_alloc_new w2 _)) (by simp [Value.oneCell']) (by omega) (by unfold maxLen; omega) (by omega) (by simp) (w2.heap.size + 1) (by simp) ?_; intro gg cap2 w3 hown3 hgrow hat hlt3; have k5 := (hgrow.cell_far ⟨b, 5, none⟩ (by simp; omega) (Ne.symm nbv)).trans (ca _); have e5 := (hgrow.frozen_far ⟨b, 5, none⟩ (by simp; omega) (Ne.symm nbv)).trans (fa _)))
    all_goals
      have hPa : ParV (w2.alloc (.cells #[.int .i64 (n.kind : Int), .int .i64 ((p.hd ts).pos : Int), .int .i64 (n.value : Int), .string n.name, .int .i64 n.decl, .int .i64 (n.op : Int), .int .i64 (n.a : Int), .int .i64 (n.b : Int), .int .i64 (n.c : Int), .bool (decide (0 < p.delays)), .bool false] 171)).drew X b ts p (.slice (some ⟨g, 0, none⟩) ts.length cap) vd vn := HP.out.below (((Below.refl _ _).alloc (Nat.le_refl _) _).drew)
      have hfin := hPa.newNodes (g := gg) (cap := cap2) (len := p.nodes.length + 1) (l := p.nodes ++ [{ n with pos := (p.hd ts).pos, delayed := decide (0 < p.delays), behind := false }]) hgrow (by rw [ndCells_snoc]; exact hown3) (by simp) (hat_le hat (by simp))
      have HFIN := hide hfin
      have HBEL : Hid (Fr X w (w2.alloc (.cells #[.int .i64 (n.kind : Int), .int .i64 ((p.hd ts).pos : Int), .int .i64 (n.value : Int), .string n.name, .int .i64 n.decl, .int .i64 (n.op : Int), .int .i64 (n.a : Int), .int .i64 (n.b : Int), .int .i64 (n.c : Int), .bool (decide (0 < p.delays)), .bool false] 171)).drew) := hide (Fr.of_below ((hBe2.alloc (by omega) _).drew) HXL.out)
      clear hown3 hgrow hat hPa hfin hown HP c5 f5
      go_wp2
      go_ret
      exact ⟨rfl, by rw [HA.out]; exact ⟨_, _, _, HFIN.out.1⟩, HBEL.out.trans HFIN.out.2⟩
  · obtain ⟨k, hk⟩ : ∃ k, p.next = k + 1 := ⟨p.next - 1, by omega⟩
    obtain ⟨_, _, t2⟩ := tkAt_cells hp.toks (i := k) (by omega)
    have qb : ((tkAt ts k).text.toList == [102, 98, 121]) = bh := by
      rw [hbh, hk, ByteArray.toList_eq]; simp [Tk.l, kFby]
    have HP := hide hp
    have HBLK := hide hblk
    clear hp hblk
    have c1' : w1.cell? ⟨b, 1, none⟩ = some (.int .i64 ((k : Int) + 1)) := by rw [c1, hk]; rfl
    have i1 : (0 : Int) ≤ (k : Int) := by omega
    have i2 : (k : Int) < (ts.length : Int) := by omega
    have i3 : decide ((0 : Int) < (k : Int) + 1) = true := by simp; try omega
    have i4 : IntKind.i64.wrap ((k : Int) + 1 - 1) = (k : Int) := by rw [wrapI _ (by omega) (by omega)]; omega
    have i5 : IntKind.i64.wrap (k : Int) = (k : Int) := wrapI _ (by omega) (by omega)
    clear c1 hbh hk
    go_wp2_with fail
    go_region_held3 (fun w' => w'.cell? ⟨b, 0, none⟩ = some (.slice (some ⟨g, 0, none⟩) ts.length cap) ∧ w'.cell? ⟨b, 1, none⟩ = some (.int .i64 ((k : Int) + 1)) ∧
      w'.cell? ⟨g, k * 3 + 2, none⟩ = some (.string (tkAt ts k).text)) (go_keep) (fail)
    rename_i hHeld
    clear hHeld
    obtain ⟨w2, hw2⟩ : ∃ w2, w2 = (((w1.setCell ⟨N, 1, none⟩ (.int .i64 ((p.hd ts).pos : Int))).setCell ⟨N, 9, none⟩ (.bool (decide (0 < p.delays)))).setCell ⟨N, 10, none⟩ (.bool bh)).drew := ⟨_, rfl⟩
    have hblk2 : w2.heap[N]? = some (.cells #[.int .i64 (n.kind : Int), .int .i64 ((p.hd ts).pos : Int), .int .i64 (n.value : Int), .string n.name, .int .i64 n.decl, .int .i64 (n.op : Int), .int .i64 (n.a : Int), .int .i64 (n.b : Int), .int .i64 (n.c : Int), .bool (decide (0 < p.delays)), .bool bh] 171) := by
      rw [hw2]; exact nodeRow w1 N _ _ _ _ _ _ _ _ _ _ _ _ _ _ _ HBLK.out
    have hp2 : ParV w2 X b ts p (.slice (some ⟨g, 0, none⟩) ts.length cap) vd vn := by
      rw [hw2]; exact ((((HP.out.other nb2 ot od on).other nb2 ot od on).other nb2 ot od on)).below ((Below.refl _ _).drew)
    have hBe2 : Below N w w2 := by
      rw [hw2]; exact ((((hBe1.setCell (Nat.le_refl _) _).setCell (Nat.le_refl _) _).setCell (Nat.le_refl _) _)).drew
    have hN2 : N < w2.heap.size := by rw [hw2]; simpa using hN1
    rw [← hw2]
    clear hw2 HP HBLK c0 c1' c3 c5 f5 d0 d1 d2 d3 d4 d5 d6 d7 d8 d9 d10 g1 g9 g10 t2 hBe1 hN1 qb
    obtain ⟨_, _, _, _, _, c5⟩ := hp2.cell
    have f5 := hp2.froz 5
    have fa : ∀ o, (w2.alloc o).frozen? ⟨b, 5, none⟩ = false := fun o => by rw [World.frozen?_alloc_past _ _ _ hp2.lt]; exact f5
    have ca : ∀ o, (w2.alloc o).cell? ⟨b, 5, none⟩ = some vn := fun o => by rw [World.cell?_alloc_past _ _ _ hp2.lt]; exact c5
    have nbv := hp2.nb
    have hown := hp2.nodes
    have lb := hp2.lt
    have d0 : w2.cell? ⟨N, 0, none⟩ = some (.int .i64 (n.kind : Int)) := by rw [cell_of_row w2 N 0 _ _ _ hblk2]; rfl
    have d1 : w2.cell? ⟨N, 1, none⟩ = some (.int .i64 ((p.hd ts).pos : Int)) := by rw [cell_of_row w2 N 1 _ _ _ hblk2]; rfl
    have d2 : w2.cell? ⟨N, 2, none⟩ = some (.int .i64 (n.value : Int)) := by rw [cell_of_row w2 N 2 _ _ _ hblk2]; rfl
    have d3 : w2.cell? ⟨N, 3, none⟩ = some (.string n.name) := by rw [cell_of_row w2 N 3 _ _ _ hblk2]; rfl
    have d4 : w2.cell? ⟨N, 4, none⟩ = some (.int .i64 n.decl) := by rw [cell_of_row w2 N 4 _ _ _ hblk2]; rfl
    have d5 : w2.cell? ⟨N, 5, none⟩ = some (.int .i64 (n.op : Int)) := by rw [cell_of_row w2 N 5 _ _ _ hblk2]; rfl
    have d6 : w2.cell? ⟨N, 6, none⟩ = some (.int .i64 (n.a : Int)) := by rw [cell_of_row w2 N 6 _ _ _ hblk2]; rfl
    have d7 : w2.cell? ⟨N, 7, none⟩ = some (.int .i64 (n.b : Int)) := by rw [cell_of_row w2 N 7 _ _ _ hblk2]; rfl
    have d8 : w2.cell? ⟨N, 8, none⟩ = some (.int .i64 (n.c : Int)) := by rw [cell_of_row w2 N 8 _ _ _ hblk2]; rfl
    have d9 : w2.cell? ⟨N, 9, none⟩ = some (.bool (decide (0 < p.delays))) := by rw [cell_of_row w2 N 9 _ _ _ hblk2]; rfl
    have d10 : w2.cell? ⟨N, 10, none⟩ = some (.bool bh) := by rw [cell_of_row w2 N 10 _ _ _ hblk2]; rfl
    have HP := hide hp2
    clear hp2 hblk2
    go_wp2_with fail
    go_region_law ((refine step_append_lies _ (by rfl) _ _ _ (by rfl) 0 171 i0 _ 11 88 Try.underlying68 hi0 hz0 hz1 hz2 rfl (by omega) vn p.nodes.length (ndCells p.nodes) (by rfl) ((hown.alloc _).drew) ⟨w2.heap.size, 0, none⟩ 1 1 [.int .i64 (n.kind : Int), .int .i64 ((p.hd ts).pos : Int), .int .i64 (n.value : Int), .string n.name, .int .i64 n.decl, .int .i64 (n.op : Int), .int .i64 (n.a : Int), .int .i64 (n.b : Int), .int .i64 (n.c : Int), .bool (decide (0 < p.delays)), .bool bh] (by rfl) (by rfl) (World.news_of_block (cs := #[.int .i64 (n.kind : Int), .int .i64 ((p.hd ts).pos : Int), .int .i64 (n.value : Int), .string n.name, .int .i64 n.decl, .int .i64 (n.op : Int), .int .i64 (n.a : Int), .int .i64 (n.b : Int), .int .i64 (n.c : Int), .bool (decide (0 < p.delays)), .bool bh]) (t := 171) (fr := (0, 0)) (heap_alloc_new w2 _)) (by simp [Value.oneCell']) (by omega) (by unfold maxLen; omega) (by omega) (by simp) (w2.heap.size + 1) (by simp) ?_; intro gg cap2 w3 hown3 hgrow hat hlt3; have k5 := (hgrow.cell_far ⟨b, 5, none⟩ (by simp; omega) (Ne.symm nbv)).trans (ca _); have e5 := (hgrow.frozen_far ⟨b, 5, none⟩ (by simp; omega) (Ne.symm nbv)).trans (fa _)))
    all_goals
      have hPa : ParV (w2.alloc (.cells #[.int .i64 (n.kind : Int), .int .i64 ((p.hd ts).pos : Int), .int .i64 (n.value : Int), .string n.name, .int .i64 n.decl, .int .i64 (n.op : Int), .int .i64 (n.a : Int), .int .i64 (n.b : Int), .int .i64 (n.c : Int), .bool (decide (0 < p.delays)), .bool bh] 171)).drew X b ts p (.slice (some ⟨g, 0, none⟩) ts.length cap) vd vn := HP.out.below (((Below.refl _ _).alloc (Nat.le_refl _) _).drew)
      have hfin := hPa.newNodes (g := gg) (cap := cap2) (len := p.nodes.length + 1) (l := p.nodes ++ [{ n with pos := (p.hd ts).pos, delayed := decide (0 < p.delays), behind := bh }]) hgrow (by rw [ndCells_snoc]; exact hown3) (by simp) (hat_le hat (by simp))
      have HFIN := hide hfin
      have HBEL : Hid (Fr X w (w2.alloc (.cells #[.int .i64 (n.kind : Int), .int .i64 ((p.hd ts).pos : Int), .int .i64 (n.value : Int), .string n.name, .int .i64 n.decl, .int .i64 (n.op : Int), .int .i64 (n.a : Int), .int .i64 (n.b : Int), .int .i64 (n.c : Int), .bool (decide (0 < p.delays)), .bool bh] 171)).drew) := hide (Fr.of_below ((hBe2.alloc (by omega) _).drew) HXL.out)
      clear hown3 hgrow hat hPa hfin hown HP c5 f5
      go_wp2
      go_ret
      exact ⟨rfl, by rw [HA.out]; exact ⟨_, _, _, HFIN.out.1⟩, HBEL.out.trans HFIN.out.2⟩

end Go.Proofs.Ytmndgoapkmhglab
