import Derived.Laws.StructEq
import Derived.Test.Ytmndgoapkmhglabo24PyB
import Derived.Test.Ytmndgoapkmhglabo28JudM
import Derived.Test.Ytmndgoapkmhglabo34HeldP
import Derived.Test.Ytmndgoapkmhglabo35OpenT
import Derived.Test.Ytmndgoapkmhglabo40OnF
import Derived.Test.Ytmndgoapkmhglabo41OnE
namespace Go.Proofs.Ytmndgoapkmhglab
open Go.RowKit
def lnP (N : List LnF) (P : PastF) (a : OpF) (m l : Nat) : LiF := ⟨(lnAt N l).src, (lnAt N l).dst, (lateN N l : Int), (cntF P (lnAt N l).src 2 : Int), (takM N P a m l : Int), comesN N P l, knoM N P a m l⟩
theorem lnP_took {N : List LnF} {P : PastF} {a : OpF} {m : Nat} (hm : m < (tookF N P a).length) (l : Nat) : (if l = (tookF N P a)[m] then tookL (lnP N P a m (tookF N P a)[m]) (a.a + a.b) else lnP N P a m l) = lnP N P a (m + 1) l := by
  obtain ⟨e1, e2⟩ := tak_next hm l
  unfold lnP
  rw [e1, e2]
  by_cases e : l = (tookF N P a)[m]
  · rw [if_pos e, if_pos e, if_pos e, ← e]
    unfold tookL
    simp
  · rw [if_neg e, if_neg e, if_neg e]
theorem lnP_start (N : List LnF) (P : PastF) (a a' : OpF) (l : Nat) : lnP N P a 0 l = lnP N P a' 0 l := by
  unfold lnP
  rw [(take_zero_tak N P a l).1, (take_zero_tak N P a l).2, (take_zero_tak N P a' l).1, (take_zero_tak N P a' l).2]
section
variable {N : List LnF} {P : PastF} {a : OpF} (V : Int → Nat → List Int)
theorem lnP_quiet (a' : OpF) {l : Nat} (hl : l < N.length) (hd : (wakeF N V P a).did ≠ 2) : lnP N (P ++ [(a, wakeF N V P a)]) a' 0 l = lnP N P a (tookF N P a).length l := by
  obtain ⟨e1, e2⟩ := tak_behind V hl (P := P) (a := a)
  unfold lnP
  rw [(take_zero_tak N _ a' l).1, (take_zero_tak N _ a' l).2, e1, e2, cnt_next, if_neg (fun h => hd h.2)]
  congr 1
  unfold comesN
  rw [comesF_app]
  simp only [comesF]
  rw [if_neg]
  intro h
  unfold isD at h
  rw [Bool.and_eq_true, decide_eq_true_iff, decide_eq_true_iff] at h
  exact hd h.2
theorem lnP_tell (a' : OpF) {l : Nat} (hl : l < N.length) (hd : (wakeF N V P a).did = 2) : lnP N (P ++ [(a, wakeF N V P a)]) a' 0 l = tellL (lnP N P a (tookF N P a).length) a.k (a.a + a.c) N.length l := by
  obtain ⟨e1, e2⟩ := tak_behind V hl (P := P) (a := a)
  have ec : comesN N (P ++ [(a, wakeF N V P a)]) l = if (lnAt N l).src = a.k then a.a + a.c else comesN N P l := by
    unfold comesN
    rw [comesF_app]
    simp only [comesF]
    by_cases e : (lnAt N l).src = a.k
    · have hi : isD (lnAt N l).src 2 (a, wakeF N V P a) = true := by
        unfold isD
        rw [Bool.and_eq_true, decide_eq_true_iff, decide_eq_true_iff]
        exact ⟨e.symm, hd⟩
      rw [if_pos e, if_pos hi]
      rfl
    · have hi : ¬ isD (lnAt N l).src 2 (a, wakeF N V P a) = true := by
        unfold isD
        rw [Bool.and_eq_true, decide_eq_true_iff, decide_eq_true_iff]
        exact fun h => e h.1.symm
      rw [if_neg e, if_neg hi]
  unfold tellL
  by_cases e : (lnAt N l).src = a.k
  · rw [if_pos ⟨hl, e⟩]
    unfold lnP sentL
    rw [(take_zero_tak N _ a' l).1, (take_zero_tak N _ a' l).2, e1, e2, cnt_next, if_pos ⟨e.symm, hd⟩, ec, if_pos e]
    simp
  · rw [if_neg (fun h => e h.2)]
    unfold lnP
    rw [(take_zero_tak N _ a' l).1, (take_zero_tak N _ a' l).2, e1, e2, cnt_next, if_neg (fun h => e h.1.symm), ec, if_neg e]
    simp
end
theorem lnP_small {N : List LnF} {P : PastF} (a : OpF) (hI : RunInv N P) (hP : P.length ≤ 400) {m l : Nat} (hl : l < N.length) : (0 ≤ (lnP N P a m l).taken ∧ (lnP N P a m l).taken ≤ 1000 ∧ 0 ≤ (lnP N P a m l).late ∧ (lnP N P a m l).late ≤ 1) ∧ 0 ≤ (lnP N P a m l).sent ∧ (lnP N P a m l).sent ≤ 1000 := by
  have h1 := hI.sent l hl
  have h2 := lateN_le N l
  have h3 : cntF P (lnAt N l).src 2 ≤ P.length := List.length_filter_le _ _
  have h4 : takM N P a m l ≤ tkF l P + 1 := by unfold takM; split <;> omega
  unfold lnP
  simp only []
  omega
end Go.Proofs.Ytmndgoapkmhglab
namespace Go.Proofs.Ytmndgoapkmhglab
open Go.RowKit
attribute [local go_sem ↓] Go.wp_at_zero Go.wp_at_succ
set_option maxHeartbeats 1000000 in
set_option maxRecDepth 100000 in
theorem plinks_any (s : ByteArray) (hs : s.size ≤ maxLen) (w : World) :
    Calls Try.prog 15 #[.string s] w fun e w' => ∃ v, e = .returned (.tuple #[v, .int .i64 ((textF s).1 : Int)]) ∧ LkQ s w.heap.size w' v ∧ Below w.heap.size w w' := by
  go_enter Try.func15, Try.ntmps15
  go_wp2_with fail
  refine (text_any s w hs (good_parse s)).mono ?_
  rintro e w1 ⟨⟨vd, vn, rfl, hr⟩, hb1⟩
  rcases hr with ⟨h0, rfl, rfl⟩ | ⟨h0, p, hp, ⟨a1, n1, c1, rfl⟩, ⟨a2, n2, c2, rfl⟩, hod, hon, hdn⟩
  · have q1 : (((textF s).1 : Int) != 0) = true := by rw [bne_iff_ne]; omega
    have H0 := hide h0
    clear h0
    go_wp2
    go_ret2
    exact ⟨_, rfl, by unfold LkQ; rw [if_neg H0.out]; exact ⟨_, _, rfl⟩, hb1.alloc hb1.size _⟩
  · have q1 : (((textF s).1 : Int) != 0) = false := by rw [h0]; rfl
    have H0 := hide h0
    have hs' := text_le h0
    have hg := good_parse s hs' p hp
    have hbl : (boundN p).length = p.nodes.length := by simp [boundN]
    have HPA : Hid (∀ o, o = .cells #[.slice a1 n1 c1, .slice a2 n2 c2] 70 → ProgAt (w1.alloc o) w1.heap.size p.decls (boundN p) (.slice a1 n1 c1) (.slice a2 n2 c2)) := hide (fun o ho => by
      subst ho
      exact ⟨by simp, (World.cell?_alloc_at _ _ _ _ rfl).trans rfl, (World.cell?_alloc_at _ _ _ _ rfl).trans rfl, (own_zero hod).alloc _, by rw [hbl]; exact (own_zero hon).alloc _⟩)
    have HG := hide hg
    have HP := hide hp
    have HB1 := hide hb1
    clear h0 hod hon hdn hg hp hb1 hbl
    go_wp2_with fail
    refine (linksOf_any _ w1.heap.size p.decls (boundN p) _ _ (HPA.out _ rfl) HG.out.wf).mono ?_
    rintro e w2 ⟨v, rfl, hown, hb2⟩
    have HO := hide hown
    have HB2 := hide hb2
    clear hown hb2 HPA
    go_wp2
    go_ret2
    refine ⟨v, by rw [H0.out]; rfl, ?_, (HB1.out.alloc HB1.out.size _).trans (HB2.out.mono (by have := HB1.out.size; simp; omega))⟩
    unfold LkQ
    rw [if_pos H0.out]
    intro L hG hR
    rw [← links_held hs' HP.out hG]
    exact own_weak HO.out (by have := HB1.out.size; simp; omega)
end Go.Proofs.Ytmndgoapkmhglab
namespace Go.Proofs.Ytmndgoapkmhglab
open Go.ChangeShapes Go.WideShapes Go.RowKit Go.Deep
theorem Try.uAct : Try.prog.underlying 43 = some (.struct (Try.prog.fieldsOf 43)) := by kernel_rfl
theorem Try.fAct : (Try.prog.fieldsOf 43).toList.map (fun f => (f.type, f.offset)) = [(3, 0), (3, 1), (3, 2), (3, 3)] := by kernel_rfl
theorem Try.cAct : Try.prog.cellsOf 43 = 4 := by kernel_rfl
theorem Try.bAct : Try.prog.bytesOf 43 = 32 := by kernel_rfl
theorem open_acts {H : Type} {enc : TypeId × Value → H} {W : World} {fuel : Nat} {v : Value} {x : DataW H × List MemPlace} (h : DataW.trod enc Try.prog W 0 (fun _ => true) true fuel 32 [v] = some x) (hw : ∀ n ∈ x.1.weights Try.prog 32, n ≤ reachBytes) :
    ∃ A C ops, v = .slice A ops.length C ∧ OpsAt W (.slice A ops.length C) ops := by
  have hrb : reachBytes = 140737488351232 := rfl
  rcases open_slice Try.underlying32 h with ⟨hcs, rfl⟩ | ⟨a, len, cap, m, n, D, Pl, hcs, _, hl, hm, hmm, rfl, hx⟩
  · simp at hcs
    subst hcs
    exact ⟨none, 0, [], rfl, none, 0, rfl, by simp, fun hp => by simp at hp⟩
  · simp at hcs
    subst hcs
    simp only [if_true] at hmm
    subst hmm
    have hsz : m * 32 ≤ reachBytes := by
      refine hw _ ?_
      simp only [DataW.weights, Try.underlying32, List.mem_cons]
      refine .inl ?_
      rw [Try.bAct]
      simp
      omega
    obtain ⟨Z, hZ⟩ := choose_lt (α := Int × Int × Int × Int) (n := m) (p := fun i z => W.cell? (a.add (i * 4)) = some (.int .i64 z.1) ∧ W.cell? ((a.add (i * 4)).add 1) = some (.int .i64 z.2.1) ∧ W.cell? ((a.add (i * 4)).add 2) = some (.int .i64 z.2.2.1) ∧ W.cell? ((a.add (i * 4)).add 3) = some (.int .i64 z.2.2.2)) (fun i hi => by
      obtain ⟨cs', h1, h2⟩ := hx i hi
      rw [Try.cAct] at h1
      obtain ⟨_, _, hcl⟩ := World.cells?_some h1
      obtain ⟨v0, v1, v2, v3, y0, y1, y2, y3, k, rfl, _, g0, g1, g2, g3, _⟩ := trod_four Try.uAct Try.fAct Try.cAct Try.cellsInt Try.cellsInt Try.cellsInt Try.cellsInt h2
      obtain ⟨z0, e0, _⟩ := DataW.trod_int Try.underlying3 g0
      obtain ⟨z1, e1, _⟩ := DataW.trod_int Try.underlying3 g1
      obtain ⟨z2, e2, _⟩ := DataW.trod_int Try.underlying3 g2
      obtain ⟨z3, e3, _⟩ := DataW.trod_int Try.underlying3 g3
      simp only [List.cons.injEq, and_true] at e0 e1 e2 e3
      subst e0 e1 e2 e3
      have k0 := hcl 0 (by omega)
      rw [add_add, Nat.add_zero] at k0
      exact ⟨(z0, z1, z2, z3), k0, hcl 1 (by omega), hcl 2 (by omega), hcl 3 (by omega)⟩)
    have hln : ((List.range len).map fun i => (⟨(Z i).1, (Z i).2.1, (Z i).2.2.1, (Z i).2.2.2⟩ : OpF)).length = len := by simp
    refine ⟨some a, m, (List.range len).map fun i => ⟨(Z i).1, (Z i).2.1, (Z i).2.2.1, (Z i).2.2.2⟩, by rw [hln], some a, m, by rw [hln], by rw [hln]; omega, fun hp => ?_⟩
    rw [hln] at hp
    obtain ⟨b, o, sp⟩ := a
    have hs : sp = none := spot_none (by simpa using (hZ 0 (by omega)).1)
    subst hs
    refine ⟨b, o, rfl, ?_, fun i hi => ?_⟩
    · have := World.block_lt_of_cell? _ _ (hZ 0 (by omega)).1
      simpa [Addr.add] using this
    · rw [hln] at hi
      obtain ⟨k0, k1, k2, k3⟩ := hZ i (by omega)
      rw [plain_add] at k0 k1 k2 k3
      rw [plain_add] at k1 k2 k3
      simp only [List.getElem_map, List.getElem_range]
      exact ⟨k0, k1, k2, k3⟩
end Go.Proofs.Ytmndgoapkmhglab
