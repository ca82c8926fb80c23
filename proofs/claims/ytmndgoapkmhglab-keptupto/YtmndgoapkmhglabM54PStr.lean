import Derived.Test.YtmndgoapkmhglabM24JudM
import Derived.Test.YtmndgoapkmhglabM28SpU
import Derived.Test.YtmndgoapkmhglabM38OpsA
import Derived.Test.YtmndgoapkmhglabM39HeldP
import Derived.Test.YtmndgoapkmhglabM52SvE
/- Streams of the program. -/
namespace Go.Proofs.Ytmndgoapkmhglab
open Go.RowKit
attribute [local go_sem ↓] Go.wp_at_zero Go.wp_at_succ

set_option maxHeartbeats 1000000 in
set_option maxRecDepth 100000 in
theorem streams_any (s : ByteArray) (hs : s.size ≤ maxLen) (w : World) (vX : Value) (ins : List (List Int)) (hX : LsAt w vX ins) (n : Int) :
    Calls Try.prog 12 #[.string s, vX, .int .i64 n] w fun e w' => ∃ v, e = .returned (.tuple #[v, .int .i64 (strR s n : Int)]) ∧ StrQ s ins n w.heap.size w' v ∧ Below w.heap.size w w' := by
  have HX := hide hX
  clear hX
  go_enter Try.func12, Try.ntmps12
  go_wp2_with fail
  refine (text_any s w hs (good_parse s)).mono ?_
  rintro e w1 ⟨⟨vd, vn, rfl, hr⟩, hb1⟩
  rcases hr with ⟨h0, rfl, rfl⟩ | ⟨h0, p, hp, ⟨a1, n1, c1, rfl⟩, ⟨a2, n2, c2, rfl⟩, hod, hon, hdn⟩
  · have q1 : (((textF s).1 : Int) != 0) = true := by rw [bne_iff_ne]; omega
    have HSR : Hid (strR s n = (textF s).1) := hide (by unfold strR; rw [if_pos h0])
    have H0 := hide h0
    clear h0
    go_wp2
    go_ret2
    exact ⟨_, by rw [HSR.out]; rfl, by unfold StrQ; rw [HSR.out, if_neg H0.out]; exact ⟨_, _, rfl⟩, hb1.alloc hb1.size _⟩
  · have q1 : (((textF s).1 : Int) != 0) = false := by rw [h0]; rfl
    by_cases hn : n < 0 ∨ 200 < n
    · have HSR : Hid (strR s n = 10) := hide (by unfold strR; rw [if_neg (by simpa using h0), if_pos hn])
      have hc : n < 0 ∨ (¬ n < 0 ∧ 200 < n) := by omega
      have HB1 := hide hb1
      clear hn h0 hod hon hdn hp hb1
      rcases hc with z1 | ⟨z1, z2⟩
      all_goals
        go_wp2
        go_ret2
        exact ⟨_, by rw [HSR.out]; rfl, by unfold StrQ; rw [HSR.out]; exact ⟨_, _, rfl⟩, HB1.out.alloc HB1.out.size _⟩
    · have z1 : ¬ n < 0 := by omega
      have z2 : ¬ 200 < n := by omega
      have HSR : Hid (strR s n = 0) := hide (by unfold strR; rw [if_neg (by simpa using h0), if_neg hn])
      obtain ⟨k, rfl⟩ : ∃ k : Nat, n = (k : Int) := ⟨n.toNat, by omega⟩
      have hs' := text_le h0
      have hg := good_parse s hs' p hp
      obtain ⟨L, hG, hR, hO⟩ := good_text h0
      obtain ⟨g1, g2, hB⟩ := held_of hs' hp hG
      have hi := declsInv _ _ _ DInv.start hp
      have hbl : (boundN p).length = p.nodes.length := by simp [boundN]
      have hcovB : ∀ i, i < (boundN p).length → ∃ d ∈ p.decls, d.root ≤ i ∧ i < d.fin := fun i h => hi.cover i (by omega)
      have hnm0 : ∀ m ∈ boundN p, m.kind = 2 → 0 ≤ m.decl ∧ m.decl < (p.decls.length : Int) := fun m hm hk => by
        have h5 : badNameF p.decls (boundN p) 0 p.decls = none := by
          have h6 : (meaningF p.decls (boundN p)).1 = 0 := by
            have := h0
            unfold textF at this
            rw [if_neg (by omega), hp] at this
            exact this
          unfold meaningF at h6
          split at h6
          · cases h6
          · split at h6
            · cases h6
            · rename_i _ h7; exact h7
        exact ⟨hg.names h5 m hm hk, (hg.wf.decl m hm hk).2⟩
      obtain ⟨NV, hM, hS⟩ := meant_of hR hG.types ins g1 g2 hB hcovB hg.wf.segs hnm0
      have hrk := ranked_of hR hB
      have h16 : p.decls.length ≤ 16 := by
        have e1 : L.length = p.decls.length := hB.dx.len
        have e2 : (eqL L).length + (inL L).length = L.length := by
          have : ∀ l : List Dl, (eqL l).length + (inL l).length = l.length := by
            intro l
            induction l with
            | nil => rfl
            | cons x r ih =>
              by_cases hx : x.kind = 0
              · simp [eqL, inL, hx] at ih ⊢; omega
              · simp [eqL, inL, hx] at ih ⊢; omega
          exact this L
        have := hR.few
        omega
      have hel : (eqsF p.decls).length = (eqL L).length := by
        have hE : All2 (DX (toks s) (bindF p.decls) (boundN p)) (eqsF p.decls) (eqL L) := All2.filter (fun d x h => by rw [h.kind]) hB.dx
        exact hE.len.symm
      have HPA : Hid (∀ o, o = .cells #[.slice a1 n1 c1, .slice a2 n2 c2] 70 → ProgAt (w1.alloc o) w1.heap.size p.decls (boundN p) (.slice a1 n1 c1) (.slice a2 n2 c2)) := hide (fun o ho => by
        subst ho
        exact ⟨by simp, (World.cell?_alloc_at _ _ _ _ rfl).trans rfl, (World.cell?_alloc_at _ _ _ _ rfl).trans rfl, (own_zero hod).alloc _, by rw [hbl]; exact (own_zero hon).alloc _⟩)
      have HSO := hide (fun W hW hL => sof_any W w1.heap.size p.decls (boundN p) (.slice a1 n1 c1) (.slice a2 n2 c2) vX ins NV hW hg.wf hL hM h16 _ hrk k (by omega) (sol (toks s) L ins) hS)
      have HG := hide hG
      have HEL := hide hel
      have HB1 := hide hb1
      clear h0 hn hod hon hdn hg hp hb1 hbl hM hS hrk h16 hB hG hR hO g1 g2 hi hcovB hnm0 hel
      go_wp2_with fail
      refine (HSO.out _ (HPA.out _ rfl) (HX.out.below (HB1.out.alloc HB1.out.size _))).mono ?_
      rintro e w2 ⟨v, rfl, hO, hb2⟩
      have HO := hide hO
      have HB2 := hide hb2
      clear hO hb2 HPA HSO
      go_wp2
      go_ret2
      refine ⟨v, by rw [HSR.out]; rfl, ?_, (HB1.out.alloc HB1.out.size _).trans (HB2.out.mono (by have := HB1.out.size; simp; omega))⟩
      unfold StrQ
      rw [if_pos HSR.out]
      intro L' hG' hR'
      obtain ⟨se, si⟩ := spell_same (toks_F s) HG.out.sp hG'.sp
      rw [Int.toNat_natCast, ← se, ← HEL.out, ← sol_same se si ins]
      obtain ⟨a, gr, rc, R, h1, h2, h3, h4, h5⟩ := HO.out.mat
      have hsz := HB1.out.size
      exact Outs.own ⟨⟨a, gr, rc, R, h1, h2, h3, fun i hi => by have := h4 i hi; simp at this; omega, by simp at h5; omega⟩⟩ (by omega)

end Go.Proofs.Ytmndgoapkmhglab
