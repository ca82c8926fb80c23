import Derived.BigRegion
import Derived.Deep.RegionLaw
import Derived.Test.Ytmndgoapkmhglabc03ParB
namespace Go.Proofs.Ytmndgoapkmhglab
open Go.RowKit
attribute [local go_sem ↓] Go.wp_at_zero Go.wp_at_succ
attribute [local go_sem] Try.fieldTok0 Try.fieldTok1 Try.fieldTok2
theorem Try.infoNode : (Try.prog.info? 171).map (fun i => (i.zero, i.size, i.bytes)) = some (some (.agg #[.int .i64 0, .int .i64 0, .int .i64 0, .string ⟨#[]⟩, .int .i64 0, .int .i64 0, .int .i64 0, .int .i64 0, .int .i64 0, .bool false, .bool false]), 11, 88) := by kernel_rfl
theorem Try.infoDecl : (Try.prog.info? 126).map (fun i => (i.zero, i.size, i.bytes)) = some (some (.agg #[.int .i64 0, .int .i64 0, .string ⟨#[]⟩, .int .i64 0, .int .i64 0, .int .i64 0, .int .i64 0]), 7, 64) := by kernel_rfl
theorem set5 (a0 a1 a2 a3 a4 a5 u : Value) : (#[a0, a1, a2, a3, a4, a5] : Array Value).setIfInBounds 5 u = #[a0, a1, a2, a3, a4, u] := by simp
theorem set4 (a0 a1 a2 a3 a4 a5 u : Value) : (#[a0, a1, a2, a3, a4, a5] : Array Value).setIfInBounds 4 u = #[a0, a1, a2, a3, u, a5] := by simp
theorem ParV.newNodes {w w1 : World} {X : Nat → Prop} {b : Nat} {ts : List Tk} {p : PS} {vt vd vn : Value} {g cap len : Nat} {l : List Nd} (h : ParV w X b ts p vt vd vn) (hgrow : w.grownBy w1 vn.ownBlock)
    (hown : w1.ownsRow 0 171 11 (.slice (some ⟨g, 0, none⟩) len cap) len (ndCells l)) (hlen : l.length = len) (hat : vn.ownBlock = some g ∨ w.heap.size ≤ g) :
    ParV (w1.setCell ⟨b, 5, none⟩ (.slice (some ⟨g, 0, none⟩) len cap)) X b ts { p with nodes := l } vt vd (.slice (some ⟨g, 0, none⟩) len cap) ∧ Fr X w (w1.setCell ⟨b, 5, none⟩ (.slice (some ⟨g, 0, none⟩) len cap)) := by
  have gb : g ≠ b := by
    rcases hat with hg | hg
    · rintro rfl; exact h.nb hg
    · have := h.lt; omega
  have hg2 : w1.grownBy (w1.setCell ⟨b, 5, none⟩ (.slice (some ⟨g, 0, none⟩) len cap)) (some b) := ⟨rfl, rfl, rfl, by simp, fun k _ hk => heap_setCell_other w1 ⟨b, 5, none⟩ k _ (fun e => hk (by simp [e]))⟩
  have keep : ∀ {e size n : Nat} {v : Value} {xs : List Value}, w.ownsRow 0 e size v n xs → v.ownBlock ≠ some b → (∀ k, v.ownBlock = some k → vn.ownBlock ≠ some k) →
      (w1.setCell ⟨b, 5, none⟩ (.slice (some ⟨g, 0, none⟩) len cap)).ownsRow 0 e size v n xs := by
    intro e size n v xs ho hb hk
    refine (ho.kept hgrow ?_).kept hg2 (.inr hb)
    cases hv : v.ownBlock with
    | none => exact .inl rfl
    | some k => exact .inr (fun e => hk k hv e.symm)
  have hbb : w1.heap[b]? = w.heap[b]? := hgrow.block b h.lt (Ne.symm h.nb)
  refine ⟨⟨?_, keep h.toks h.tb h.tn, keep h.decls h.db h.dn, ?_, h.tb, h.db, ?_, h.td, ?_, ?_, ?_, h.xb, h.xd, ?_, h.xt⟩, ?_⟩
  · rw [heap_setCell_same w1 b 5 _ _ _ (hbb.trans h.at_b), set5]
  · rw [hlen]
    exact hown.kept hg2 (.inr (by simp [Value.ownBlock, gb]))
  · simp [Value.ownBlock, gb]
  · intro k hk
    simp only [Value.ownBlock, ne_eq, Option.some.injEq]
    rintro rfl
    rcases hat with hg | hg
    · exact h.tn g hk hg
    · have := (h.toks.lt g hk).2; omega
  · intro k hk
    simp only [Value.ownBlock, ne_eq, Option.some.injEq]
    rintro rfl
    rcases hat with hg | hg
    · exact h.dn g hk hg
    · have := (h.decls.lt g hk).2; omega
  · intro k hk
    have := h.xlt k hk
    have := hgrow.size
    simp; omega
  · intro k hk hx
    simp only [Value.ownBlock, Option.some.injEq] at hk
    subst hk
    rcases hat with hg | hg
    · exact h.xn g hg hx
    · have := h.xlt g hx; omega
  · exact (Fr.mk hgrow.os hgrow.tape hgrow.output hgrow.size (fun k hk => hgrow.block k (h.xlt k hk) (fun e => h.xn k e.symm hk))).setCell h.xb _
theorem ParV.newDecls {w w1 : World} {X : Nat → Prop} {b : Nat} {ts : List Tk} {p : PS} {vt vd vn : Value} {g cap len : Nat} {l : List Dc} (h : ParV w X b ts p vt vd vn) (hgrow : w.grownBy w1 vd.ownBlock)
    (hown : w1.ownsRow 0 126 7 (.slice (some ⟨g, 0, none⟩) len cap) len (dcCells l)) (hlen : l.length = len) (hat : vd.ownBlock = some g ∨ w.heap.size ≤ g) :
    ParV (w1.setCell ⟨b, 4, none⟩ (.slice (some ⟨g, 0, none⟩) len cap)) X b ts { p with decls := l } vt (.slice (some ⟨g, 0, none⟩) len cap) vn ∧ Fr X w (w1.setCell ⟨b, 4, none⟩ (.slice (some ⟨g, 0, none⟩) len cap)) := by
  have gb : g ≠ b := by
    rcases hat with hg | hg
    · rintro rfl; exact h.db hg
    · have := h.lt; omega
  have hg2 : w1.grownBy (w1.setCell ⟨b, 4, none⟩ (.slice (some ⟨g, 0, none⟩) len cap)) (some b) := ⟨rfl, rfl, rfl, by simp, fun k _ hk => heap_setCell_other w1 ⟨b, 4, none⟩ k _ (fun e => hk (by simp [e]))⟩
  have keep : ∀ {e size n : Nat} {v : Value} {xs : List Value}, w.ownsRow 0 e size v n xs → v.ownBlock ≠ some b → (∀ k, v.ownBlock = some k → vd.ownBlock ≠ some k) →
      (w1.setCell ⟨b, 4, none⟩ (.slice (some ⟨g, 0, none⟩) len cap)).ownsRow 0 e size v n xs := by
    intro e size n v xs ho hb hk
    refine (ho.kept hgrow ?_).kept hg2 (.inr hb)
    cases hv : v.ownBlock with
    | none => exact .inl rfl
    | some k => exact .inr (fun e => hk k hv e.symm)
  have hbb : w1.heap[b]? = w.heap[b]? := hgrow.block b h.lt (Ne.symm h.db)
  refine ⟨⟨?_, keep h.toks h.tb h.td, ?_, keep h.nodes h.nb (fun k hk hd => h.dn k hd hk), h.tb, ?_, h.nb, ?_, h.tn, ?_, ?_, h.xb, ?_, h.xn, h.xt⟩, ?_⟩
  · rw [heap_setCell_same w1 b 4 _ _ _ (hbb.trans h.at_b), set4]
  · rw [hlen]
    exact hown.kept hg2 (.inr (by simp [Value.ownBlock, gb]))
  · simp [Value.ownBlock, gb]
  · intro k hk
    simp only [Value.ownBlock, ne_eq, Option.some.injEq]
    rintro rfl
    rcases hat with hg | hg
    · exact h.td g hk hg
    · have := (h.toks.lt g hk).2; omega
  · intro k hk
    simp only [Value.ownBlock, Option.some.injEq] at hk
    subst hk
    rcases hat with hg | hg
    · exact h.dn g hg
    · intro hv
      have := (h.nodes.lt g hv).2; omega
  · intro k hk
    have := h.xlt k hk
    have := hgrow.size
    simp; omega
  · intro k hk hx
    simp only [Value.ownBlock, Option.some.injEq] at hk
    subst hk
    rcases hat with hg | hg
    · exact h.xd g hg hx
    · have := h.xlt g hx; omega
  · exact (Fr.mk hgrow.os hgrow.tape hgrow.output hgrow.size (fun k hk => hgrow.block k (h.xlt k hk) (fun e => h.xd k e.symm hk))).setCell h.xb _
theorem ParV.other {w : World} {X : Nat → Prop} {b N i : Nat} {u : Value} {ts : List Tk} {p : PS} {vt vd vn : Value} (h : ParV w X b ts p vt vd vn) (hb : b ≠ N) (ht : vt.ownBlock ≠ some N) (hd : vd.ownBlock ≠ some N) (hn : vn.ownBlock ≠ some N) :
    ParV (w.setCell ⟨N, i, none⟩ u) X b ts p vt vd vn := by
  have hg : w.grownBy (w.setCell ⟨N, i, none⟩ u) (some N) := ⟨rfl, rfl, rfl, by simp, fun k _ hk => heap_setCell_other w ⟨N, i, none⟩ k u (fun e => hk (by simp [e]))⟩
  exact ⟨(heap_setCell_other w ⟨N, i, none⟩ b u hb).trans h.at_b, h.toks.kept hg (.inr ht), h.decls.kept hg (.inr hd), h.nodes.kept hg (.inr hn), h.tb, h.db, h.nb, h.td, h.tn, h.dn, fun k hk => by simpa using h.xlt k hk, h.xb, h.xd, h.xn, h.xt⟩
theorem nodeRow (w : World) (N : Nat) (a0 a1 a2 a3 a4 a5 a6 a7 a8 a9 a10 v1 v9 v10 : Value) (t : TypeId) (h : w.heap[N]? = some (.cells #[a0, a1, a2, a3, a4, a5, a6, a7, a8, a9, a10] t)) :
    (((w.setCell ⟨N, 1, none⟩ v1).setCell ⟨N, 9, none⟩ v9).setCell ⟨N, 10, none⟩ v10).heap[N]? = some (.cells #[a0, v1, a2, a3, a4, a5, a6, a7, a8, v9, v10] t) := by
  have h1 := heap_setCell_same w N 1 _ _ v1 h
  have h2 := heap_setCell_same _ N 9 _ _ v9 h1
  have h3 := heap_setCell_same _ N 10 _ _ v10 h2
  rw [h3]; simp
set_option maxHeartbeats 4000000 in
set_option maxRecDepth 100000 in
theorem add_any (w : World) (X : Nat → Prop) (b : Nat) (ts : List Tk) (p : PS) (n : Nd) (h : Par w X b ts p) (hn : p.next < ts.length) (hl : ts.length ≤ 1501) (hnl : p.nodes.length ≤ 1501) :
    Calls Try.prog 138 #[.pointer (some ⟨b, 0, none⟩), n.val] w fun e w' =>
      e = .returned (.int .i64 (p.nodes.length : Int)) ∧ Par w' X b ts (p.add ts n) ∧ Fr X w w' := by
  have HXL := hide h.xlt
  obtain ⟨i0, hi0, hz0, hz1, hz2⟩ := info_parts Try.infoNode
  go_enter Try.func138, Try.ntmps138
  go_wp2_with fail
  refine (here_any _ X b ts p (h.below ((Below.refl _ _).alloc (Nat.le_refl _) _)) hn hl).mono ?_
  rintro e w1 ⟨rfl, hb1⟩
  have hblk : w1.heap[w.heap.size]? = some (.cells #[.int .i64 (n.kind : Int), .int .i64 (n.pos : Int), .int .i64 (n.value : Int), .string n.name, .int .i64 n.decl, .int .i64 (n.op : Int), .int .i64 (n.a : Int), .int .i64 (n.b : Int), .int .i64 (n.c : Int), .bool n.delayed, .bool n.behind] 171) :=
    (hb1.block _ (by simp)).trans (heap_alloc_new w _)
  have hBe1 : Below w.heap.size w w1 := ((Below.refl _ _).alloc (Nat.le_refl _) _).trans (hb1.mono (by simp))
  have hN1 : w.heap.size < w1.heap.size := by have := hb1.size; simp at this; omega
  obtain ⟨vt, vd, vn, hp0⟩ := h
  have hp : ParV w1 X b ts p vt vd vn := hp0.below hBe1
  have hbN : b < w.heap.size := hp0.lt
  obtain ⟨g, cap, rfl, _, glt⟩ := hp0.toks.form (by omega)
  have on : vn.ownBlock ≠ some w.heap.size := fun hk => by have := (hp0.nodes.lt _ hk).2; omega
  have od : vd.ownBlock ≠ some w.heap.size := fun hk => by have := (hp0.decls.lt _ hk).2; omega
  have ot : (Value.slice (some ⟨g, 0, none⟩) ts.length cap).ownBlock ≠ some w.heap.size := fun hk => by have := (hp0.toks.lt _ hk).2; omega
  clear hb1 hp0
  obtain ⟨c0, c1, _, c3, _, c5⟩ := hp.cell
  have f5 := hp.froz 5
  generalize w.heap.size = N at *
  have d0 := cell_of_row w1 N 0 _ _ _ hblk
  have d1 := cell_of_row w1 N 1 _ _ _ hblk
  have d2 := cell_of_row w1 N 2 _ _ _ hblk
  have d3 := cell_of_row w1 N 3 _ _ _ hblk
  have d4 := cell_of_row w1 N 4 _ _ _ hblk
  have d5 := cell_of_row w1 N 5 _ _ _ hblk
  have d6 := cell_of_row w1 N 6 _ _ _ hblk
  have d7 := cell_of_row w1 N 7 _ _ _ hblk
  have d8 := cell_of_row w1 N 8 _ _ _ hblk
  have d9 := cell_of_row w1 N 9 _ _ _ hblk
  have d10 := cell_of_row w1 N 10 _ _ _ hblk
  have g1 := frozen_of_row w1 N 1 _ _ hblk
  have g9 := frozen_of_row w1 N 9 _ _ hblk
  have g10 := frozen_of_row w1 N 10 _ _ hblk
  simp at d0 d1 d2 d3 d4 d5 d6 d7 d8 d9 d10
  have nb1 : N ≠ b := by omega
  have nb2 : b ≠ N := by omega
  have ng1 : N ≠ g := by omega
  have ng2 : g ≠ N := by omega
  have HA : Hid (p.add ts n = { p with nodes := p.nodes ++ [{ n with pos := (p.hd ts).pos, delayed := decide (0 < p.delays), behind := decide (0 < p.next) && ((tkAt ts (p.next - 1)).l == kFby) }] }) := hide rfl
  obtain ⟨bh, hbh⟩ : ∃ bh, bh = (decide (0 < p.next) && ((tkAt ts (p.next - 1)).l == kFby)) := ⟨_, rfl⟩
  rw [← hbh] at HA
  rcases Nat.eq_zero_or_pos p.next with hz | hpos
  · have qb : bh = false := by rw [hbh, hz]; rfl
    subst qb
    have HP := hide hp
    have HBLK := hide hblk
    clear hp hblk
    have c1' : w1.cell? ⟨b, 1, none⟩ = some (.int .i64 0) := by rw [c1, hz]; rfl
    have t2 := trivial
    clear c1 hbh hz
    go_wp2_with fail
    go_big_region
    have qb := trivial
    obtain ⟨w2, hw2⟩ : ∃ w2, w2 = (((w1.setCell ⟨N, 1, none⟩ (.int .i64 ((p.hd ts).pos : Int))).setCell ⟨N, 9, none⟩ (.bool (decide (0 < p.delays)))).setCell ⟨N, 10, none⟩ (.bool false)).drew := ⟨_, rfl⟩
    have hblk2 : w2.heap[N]? = some (.cells #[.int .i64 (n.kind : Int), .int .i64 ((p.hd ts).pos : Int), .int .i64 (n.value : Int), .string n.name, .int .i64 n.decl, .int .i64 (n.op : Int), .int .i64 (n.a : Int), .int .i64 (n.b : Int), .int .i64 (n.c : Int), .bool (decide (0 < p.delays)), .bool false] 171) := by
      rw [hw2]; exact nodeRow w1 N _ _ _ _ _ _ _ _ _ _ _ _ _ _ _ HBLK.out
    have hp2 : ParV w2 X b ts p (.slice (some ⟨g, 0, none⟩) ts.length cap) vd vn := by
      rw [hw2]; exact ((((HP.out.other nb2 ot od on).other nb2 ot od on).other nb2 ot od on)).below ((Below.refl _ _).drew)
    have hBe2 : Below N w w2 := by
      rw [hw2]; exact ((((hBe1.setCell (Nat.le_refl _) _).setCell (Nat.le_refl _) _).setCell (Nat.le_refl _) _)).drew
    have hN2 : N < w2.heap.size := by rw [hw2]; simpa using hN1
    rw [← hw2]
    clear hw2 HP HBLK c0 c1' c3 c5 f5 d0 d1 d2 d3 d4 d5 d6 d7 d8 d9 d10 g1 g9 g10 t2 hBe1 hN1 qb
    obtain ⟨_, _, _, _, _, c5⟩ := hp2.cell
    have f5 := hp2.froz 5
    have fa : ∀ o, (w2.alloc o).frozen? ⟨b, 5, none⟩ = false := fun o => by rw [World.frozen?_alloc_past _ _ _ hp2.lt]; exact f5
    have ca : ∀ o, (w2.alloc o).cell? ⟨b, 5, none⟩ = some vn := fun o => by rw [World.cell?_alloc_past _ _ _ hp2.lt]; exact c5
    have nbv := hp2.nb
    have hown := hp2.nodes
    have lb := hp2.lt
    have d0 : w2.cell? ⟨N, 0, none⟩ = some (.int .i64 (n.kind : Int)) := by rw [cell_of_row w2 N 0 _ _ _ hblk2]; rfl
    have d1 : w2.cell? ⟨N, 1, none⟩ = some (.int .i64 ((p.hd ts).pos : Int)) := by rw [cell_of_row w2 N 1 _ _ _ hblk2]; rfl
    have d2 : w2.cell? ⟨N, 2, none⟩ = some (.int .i64 (n.value : Int)) := by rw [cell_of_row w2 N 2 _ _ _ hblk2]; rfl
    have d3 : w2.cell? ⟨N, 3, none⟩ = some (.string n.name) := by rw [cell_of_row w2 N 3 _ _ _ hblk2]; rfl
    have d4 : w2.cell? ⟨N, 4, none⟩ = some (.int .i64 n.decl) := by rw [cell_of_row w2 N 4 _ _ _ hblk2]; rfl
    have d5 : w2.cell? ⟨N, 5, none⟩ = some (.int .i64 (n.op : Int)) := by rw [cell_of_row w2 N 5 _ _ _ hblk2]; rfl
    have d6 : w2.cell? ⟨N, 6, none⟩ = some (.int .i64 (n.a : Int)) := by rw [cell_of_row w2 N 6 _ _ _ hblk2]; rfl
    have d7 : w2.cell? ⟨N, 7, none⟩ = some (.int .i64 (n.b : Int)) := by rw [cell_of_row w2 N 7 _ _ _ hblk2]; rfl
    have d8 : w2.cell? ⟨N, 8, none⟩ = some (.int .i64 (n.c : Int)) := by rw [cell_of_row w2 N 8 _ _ _ hblk2]; rfl
    have d9 : w2.cell? ⟨N, 9, none⟩ = some (.bool (decide (0 < p.delays))) := by rw [cell_of_row w2 N 9 _ _ _ hblk2]; rfl
    have d10 : w2.cell? ⟨N, 10, none⟩ = some (.bool false) := by rw [cell_of_row w2 N 10 _ _ _ hblk2]; rfl
    have HP := hide hp2
    clear hp2 hblk2
    go_wp2_with fail
    go_region_law ((refine step_append_lies _ (by rfl) _ _ _ (by rfl) 0 171 i0 _ 11 88 Try.underlying68 hi0 hz0 hz1 hz2 rfl (by omega) vn p.nodes.length (ndCells p.nodes) (by rfl) ((hown.alloc _).drew) ⟨w2.heap.size, 0, none⟩ 1 1 [.int .i64 (n.kind : Int), .int .i64 ((p.hd ts).pos : Int), .int .i64 (n.value : Int), .string n.name, .int .i64 n.decl, .int .i64 (n.op : Int), .int .i64 (n.a : Int), .int .i64 (n.b : Int), .int .i64 (n.c : Int), .bool (decide (0 < p.delays)), .bool false] (by rfl) (by rfl) (World.news_of_block (cs := #[.int .i64 (n.kind : Int), .int .i64 ((p.hd ts).pos : Int), .int .i64 (n.value : Int), .string n.name, .int .i64 n.decl, .int .i64 (n.op : Int), .int .i64 (n.a : Int), .int .i64 (n.b : Int), .int .i64 (n.c : Int), .bool (decide (0 < p.delays)), .bool false]) (t := 171) (fr := (0, 0)) (heap_alloc_new w2 _)) (by simp [Value.oneCell']) (by omega) (by unfold maxLen; omega) (by omega) (by simp) (w2.heap.size + 1) (by simp) ?_; intro gg cap2 w3 hown3 hgrow hat hlt3; have k5 := (hgrow.cell_far ⟨b, 5, none⟩ (by simp; omega) (Ne.symm nbv)).trans (ca _); have e5 := (hgrow.frozen_far ⟨b, 5, none⟩ (by simp; omega) (Ne.symm nbv)).trans (fa _)))
    all_goals
      have hPa : ParV (w2.alloc (.cells #[.int .i64 (n.kind : Int), .int .i64 ((p.hd ts).pos : Int), .int .i64 (n.value : Int), .string n.name, .int .i64 n.decl, .int .i64 (n.op : Int), .int .i64 (n.a : Int), .int .i64 (n.b : Int), .int .i64 (n.c : Int), .bool (decide (0 < p.delays)), .bool false] 171)).drew X b ts p (.slice (some ⟨g, 0, none⟩) ts.length cap) vd vn := HP.out.below (((Below.refl _ _).alloc (Nat.le_refl _) _).drew)
      have hfin := hPa.newNodes (g := gg) (cap := cap2) (len := p.nodes.length + 1) (l := p.nodes ++ [{ n with pos := (p.hd ts).pos, delayed := decide (0 < p.delays), behind := false }]) hgrow (by rw [ndCells_snoc]; exact hown3) (by simp) (hat_le hat (by simp))
      have HFIN := hide hfin
      have HBEL : Hid (Fr X w (w2.alloc (.cells #[.int .i64 (n.kind : Int), .int .i64 ((p.hd ts).pos : Int), .int .i64 (n.value : Int), .string n.name, .int .i64 n.decl, .int .i64 (n.op : Int), .int .i64 (n.a : Int), .int .i64 (n.b : Int), .int .i64 (n.c : Int), .bool (decide (0 < p.delays)), .bool false] 171)).drew) := hide (Fr.of_below ((hBe2.alloc (by omega) _).drew) HXL.out)
      clear hown3 hgrow hat hPa hfin hown HP c5 f5
      go_wp2
      go_ret
      exact ⟨rfl, by rw [HA.out]; exact ⟨_, _, _, HFIN.out.1⟩, HBEL.out.trans HFIN.out.2⟩
  · obtain ⟨k, hk⟩ : ∃ k, p.next = k + 1 := ⟨p.next - 1, by omega⟩
    obtain ⟨_, _, t2⟩ := tkAt_cells hp.toks (i := k) (by omega)
    have qb : ((tkAt ts k).text.toList == [102, 98, 121]) = bh := by
      rw [hbh, hk, ByteArray.toList_eq]; simp [Tk.l, kFby]
    have HP := hide hp
    have HBLK := hide hblk
    clear hp hblk
    have c1' : w1.cell? ⟨b, 1, none⟩ = some (.int .i64 ((k : Int) + 1)) := by rw [c1, hk]; rfl
    have i1 : (0 : Int) ≤ (k : Int) := by omega
    have i2 : (k : Int) < (ts.length : Int) := by omega
    have i3 : decide ((0 : Int) < (k : Int) + 1) = true := by simp; try omega
    have i4 : IntKind.i64.wrap ((k : Int) + 1 - 1) = (k : Int) := by rw [wrapI _ (by omega) (by omega)]; omega
    have i5 : IntKind.i64.wrap (k : Int) = (k : Int) := wrapI _ (by omega) (by omega)
    clear c1 hbh hk
    go_wp2_with fail
    go_region_held3 (fun w' => w'.cell? ⟨b, 0, none⟩ = some (.slice (some ⟨g, 0, none⟩) ts.length cap) ∧ w'.cell? ⟨b, 1, none⟩ = some (.int .i64 ((k : Int) + 1)) ∧
      w'.cell? ⟨g, k * 3 + 2, none⟩ = some (.string (tkAt ts k).text)) (go_keep) (fail)
    rename_i hHeld
    clear hHeld
    obtain ⟨w2, hw2⟩ : ∃ w2, w2 = (((w1.setCell ⟨N, 1, none⟩ (.int .i64 ((p.hd ts).pos : Int))).setCell ⟨N, 9, none⟩ (.bool (decide (0 < p.delays)))).setCell ⟨N, 10, none⟩ (.bool bh)).drew := ⟨_, rfl⟩
    have hblk2 : w2.heap[N]? = some (.cells #[.int .i64 (n.kind : Int), .int .i64 ((p.hd ts).pos : Int), .int .i64 (n.value : Int), .string n.name, .int .i64 n.decl, .int .i64 (n.op : Int), .int .i64 (n.a : Int), .int .i64 (n.b : Int), .int .i64 (n.c : Int), .bool (decide (0 < p.delays)), .bool bh] 171) := by
      rw [hw2]; exact nodeRow w1 N _ _ _ _ _ _ _ _ _ _ _ _ _ _ _ HBLK.out
    have hp2 : ParV w2 X b ts p (.slice (some ⟨g, 0, none⟩) ts.length cap) vd vn := by
      rw [hw2]; exact ((((HP.out.other nb2 ot od on).other nb2 ot od on).other nb2 ot od on)).below ((Below.refl _ _).drew)
    have hBe2 : Below N w w2 := by
      rw [hw2]; exact ((((hBe1.setCell (Nat.le_refl _) _).setCell (Nat.le_refl _) _).setCell (Nat.le_refl _) _)).drew
    have hN2 : N < w2.heap.size := by rw [hw2]; simpa using hN1
    rw [← hw2]
    clear hw2 HP HBLK c0 c1' c3 c5 f5 d0 d1 d2 d3 d4 d5 d6 d7 d8 d9 d10 g1 g9 g10 t2 hBe1 hN1 qb
    obtain ⟨_, _, _, _, _, c5⟩ := hp2.cell
    have f5 := hp2.froz 5
    have fa : ∀ o, (w2.alloc o).frozen? ⟨b, 5, none⟩ = false := fun o => by rw [World.frozen?_alloc_past _ _ _ hp2.lt]; exact f5
    have ca : ∀ o, (w2.alloc o).cell? ⟨b, 5, none⟩ = some vn := fun o => by rw [World.cell?_alloc_past _ _ _ hp2.lt]; exact c5
    have nbv := hp2.nb
    have hown := hp2.nodes
    have lb := hp2.lt
    have d0 : w2.cell? ⟨N, 0, none⟩ = some (.int .i64 (n.kind : Int)) := by rw [cell_of_row w2 N 0 _ _ _ hblk2]; rfl
    have d1 : w2.cell? ⟨N, 1, none⟩ = some (.int .i64 ((p.hd ts).pos : Int)) := by rw [cell_of_row w2 N 1 _ _ _ hblk2]; rfl
    have d2 : w2.cell? ⟨N, 2, none⟩ = some (.int .i64 (n.value : Int)) := by rw [cell_of_row w2 N 2 _ _ _ hblk2]; rfl
    have d3 : w2.cell? ⟨N, 3, none⟩ = some (.string n.name) := by rw [cell_of_row w2 N 3 _ _ _ hblk2]; rfl
    have d4 : w2.cell? ⟨N, 4, none⟩ = some (.int .i64 n.decl) := by rw [cell_of_row w2 N 4 _ _ _ hblk2]; rfl
    have d5 : w2.cell? ⟨N, 5, none⟩ = some (.int .i64 (n.op : Int)) := by rw [cell_of_row w2 N 5 _ _ _ hblk2]; rfl
    have d6 : w2.cell? ⟨N, 6, none⟩ = some (.int .i64 (n.a : Int)) := by rw [cell_of_row w2 N 6 _ _ _ hblk2]; rfl
    have d7 : w2.cell? ⟨N, 7, none⟩ = some (.int .i64 (n.b : Int)) := by rw [cell_of_row w2 N 7 _ _ _ hblk2]; rfl
    have d8 : w2.cell? ⟨N, 8, none⟩ = some (.int .i64 (n.c : Int)) := by rw [cell_of_row w2 N 8 _ _ _ hblk2]; rfl
    have d9 : w2.cell? ⟨N, 9, none⟩ = some (.bool (decide (0 < p.delays))) := by rw [cell_of_row w2 N 9 _ _ _ hblk2]; rfl
    have d10 : w2.cell? ⟨N, 10, none⟩ = some (.bool bh) := by rw [cell_of_row w2 N 10 _ _ _ hblk2]; rfl
    have HP := hide hp2
    clear hp2 hblk2
    go_wp2_with fail
    go_region_law ((refine step_append_lies _ (by rfl) _ _ _ (by rfl) 0 171 i0 _ 11 88 Try.underlying68 hi0 hz0 hz1 hz2 rfl (by omega) vn p.nodes.length (ndCells p.nodes) (by rfl) ((hown.alloc _).drew) ⟨w2.heap.size, 0, none⟩ 1 1 [.int .i64 (n.kind : Int), .int .i64 ((p.hd ts).pos : Int), .int .i64 (n.value : Int), .string n.name, .int .i64 n.decl, .int .i64 (n.op : Int), .int .i64 (n.a : Int), .int .i64 (n.b : Int), .int .i64 (n.c : Int), .bool (decide (0 < p.delays)), .bool bh] (by rfl) (by rfl) (World.news_of_block (cs := #[.int .i64 (n.kind : Int), .int .i64 ((p.hd ts).pos : Int), .int .i64 (n.value : Int), .string n.name, .int .i64 n.decl, .int .i64 (n.op : Int), .int .i64 (n.a : Int), .int .i64 (n.b : Int), .int .i64 (n.c : Int), .bool (decide (0 < p.delays)), .bool bh]) (t := 171) (fr := (0, 0)) (heap_alloc_new w2 _)) (by simp [Value.oneCell']) (by omega) (by unfold maxLen; omega) (by omega) (by simp) (w2.heap.size + 1) (by simp) ?_; intro gg cap2 w3 hown3 hgrow hat hlt3; have k5 := (hgrow.cell_far ⟨b, 5, none⟩ (by simp; omega) (Ne.symm nbv)).trans (ca _); have e5 := (hgrow.frozen_far ⟨b, 5, none⟩ (by simp; omega) (Ne.symm nbv)).trans (fa _)))
    all_goals
      have hPa : ParV (w2.alloc (.cells #[.int .i64 (n.kind : Int), .int .i64 ((p.hd ts).pos : Int), .int .i64 (n.value : Int), .string n.name, .int .i64 n.decl, .int .i64 (n.op : Int), .int .i64 (n.a : Int), .int .i64 (n.b : Int), .int .i64 (n.c : Int), .bool (decide (0 < p.delays)), .bool bh] 171)).drew X b ts p (.slice (some ⟨g, 0, none⟩) ts.length cap) vd vn := HP.out.below (((Below.refl _ _).alloc (Nat.le_refl _) _).drew)
      have hfin := hPa.newNodes (g := gg) (cap := cap2) (len := p.nodes.length + 1) (l := p.nodes ++ [{ n with pos := (p.hd ts).pos, delayed := decide (0 < p.delays), behind := bh }]) hgrow (by rw [ndCells_snoc]; exact hown3) (by simp) (hat_le hat (by simp))
      have HFIN := hide hfin
      have HBEL : Hid (Fr X w (w2.alloc (.cells #[.int .i64 (n.kind : Int), .int .i64 ((p.hd ts).pos : Int), .int .i64 (n.value : Int), .string n.name, .int .i64 n.decl, .int .i64 (n.op : Int), .int .i64 (n.a : Int), .int .i64 (n.b : Int), .int .i64 (n.c : Int), .bool (decide (0 < p.delays)), .bool bh] 171)).drew) := hide (Fr.of_below ((hBe2.alloc (by omega) _).drew) HXL.out)
      clear hown3 hgrow hat hPa hfin hown HP c5 f5
      go_wp2
      go_ret
      exact ⟨rfl, by rw [HA.out]; exact ⟨_, _, _, HFIN.out.1⟩, HBEL.out.trans HFIN.out.2⟩
end Go.Proofs.Ytmndgoapkmhglab
