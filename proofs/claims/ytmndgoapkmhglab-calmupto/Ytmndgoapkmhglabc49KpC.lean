import Derived.Test.Ytmndgoapkmhglabc13RefI
import Derived.Test.Ytmndgoapkmhglabc30LawP
import Derived.Test.Ytmndgoapkmhglabc32OpenL
import Derived.Test.Ytmndgoapkmhglabc36KpB
import Derived.Test.Ytmndgoapkmhglabc37WkA
import Derived.Test.Ytmndgoapkmhglabc41AcF
import Derived.Test.Ytmndgoapkmhglabc44PyH
import Derived.Test.Ytmndgoapkmhglabc47BdA
namespace Go.Proofs.Ytmndgoapkmhglab
open Go.RowKit
attribute [local go_sem ↓] Go.wp_at_zero Go.wp_at_succ
theorem vals_held {s : ByteArray} {p : PS} (hs : s.size ≤ 1500) (hp : parseF s = .ok p) {L : List Dl} (hG : RGood s L) (ins : List (List Int)) (q m : Nat) : valsR (toks s) L ins (q : Int) m = valsP (eqsF p.decls) q (fun i => sol (toks s) L ins i m) (eqsF p.decls).length := by
  have hpl := places_held hs hp hG
  have hlen : (eqsF p.decls).length = (eqL L).length := by have := congrArg List.length hpl; simpa [plR] using this
  unfold valsR valsP atR atG
  rw [hlen]
  congr 1
  apply List.filter_congr
  intro i _
  have h1 : (eqsF p.decls)[i]?.map Dc.place = (eqL L)[i]?.map (placeD (toks s)) := by
    rw [← List.getElem?_map, ← List.getElem?_map, hpl]; rfl
  rw [h1]
  cases (eqL L)[i]? with
  | none => rfl
  | some x =>
    show ((some (((placeD (toks s) x : Nat) : Int) == (q : Int)) == some true)) = (some (placeD (toks s) x) == some q)
    rw [Bool.eq_iff_iff]
    simp
    omega
theorem net_held {s : ByteArray} {p : PS} (hs : s.size ≤ 1500) (hp : parseF s = .ok p) {L : List Dl} (hG : RGood s L) : netD (eqsF p.decls) (linksF p.decls (boundN p)) = netR (toks s) L := by
  unfold netD netR
  rw [places_held hs hp hG, links_held hs hp hG]
theorem evs_same {s : ByteArray} {L L' : List Dl} (hs : s.size ≤ 1500) (hG : RGood s L) (hG' : RGood s L') (ins : List (List Int)) (sc : List OpF) : evsR (toks s) L ins sc = evsR (toks s) L' ins sc := by
  obtain ⟨p, hp, _⟩ := hG.parse
  obtain ⟨se, si⟩ := spell_same (toks_F s) hG.sp hG'.sp
  have e1 : netR (toks s) L = netR (toks s) L' := by rw [← net_held hs hp hG, net_held hs hp hG']
  have e2 : valsR (toks s) L ins = valsR (toks s) L' ins := by
    funext pl n
    unfold valsR atR atG
    rw [se, sol_same se si ins]
  unfold evsR
  rw [e1, e2]
set_option maxHeartbeats 2000000 in
set_option maxRecDepth 100000 in
theorem prun_any (s : ByteArray) (hs : s.size ≤ maxLen) (w : World) (vX : Value) (ins : List (List Int)) (hX : LsAt w vX ins) (vS : Value) (sc : List OpF) (hS : OpsAt w vS sc) :
    Calls Try.prog 20 #[.string s, vX, vS] w fun e w' => ∃ v, e = .returned (.tuple #[v, .int .i64 ((runE s sc : Nat) : Int)]) ∧ RunQ s ins sc w.heap.size w' v ∧ Below w.heap.size w w' := by
  have HX := hide hX
  have HS := hide hS
  have HRE : Hid (runE s sc = if (textF s).1 ≠ 0 then (textF s).1 else if playK (seatsF s) sc then 0 else 11) := hide rfl
  have HRQ : Hid (∀ B w' v, RunQ s ins sc B w' v = if runE s sc = 0 then ∀ L, RGood s L → Right (toks s) L → ∃ TV VV, EvsOwn B w' v (evsR (toks s) L ins sc) TV VV else ∃ a cap, v = .slice a 0 cap) := hide fun _ _ _ => rfl
  generalize hRQ : RunQ s ins sc = Q1 at *
  generalize hre : runE s sc = er at *
  clear hX hRQ hre
  obtain ⟨AS, CS, rfl, hmS, hcS⟩ := hS
  clear hcS
  go_enter Try.func20, Try.ntmps20
  go_wp2_with fail
  refine (text_any s w hs (good_parse s)).mono ?_
  rintro e w1 ⟨⟨vd, vn, rfl, hr⟩, hb1⟩
  have HB1 := hide hb1
  rcases hr with ⟨h0, rfl, rfl⟩ | ⟨h0, p, hp, ⟨a1, n1, c1, rfl⟩, ⟨a2, n2, c2, rfl⟩, hod, hon, hdn⟩
  · have q1 : (((textF s).1 : Int) != 0) = true := by rw [bne_iff_ne]; omega
    have HE : Hid (er = (textF s).1) := hide (by rw [HRE.out, if_pos h0])
    have HQ : Hid (∀ w', Q1 w.heap.size w' (.slice none 0 0)) := hide (fun w' => by rw [HRQ.out, if_neg (by rw [HE.out]; exact h0)]; exact ⟨_, _, rfl⟩)
    clear h0 hb1
    go_wp2
    go_ret2
    exact ⟨_, by rw [HE.out]; rfl, HQ.out _, HB1.out.alloc HB1.out.size _⟩
  · have q1 : (((textF s).1 : Int) != 0) = false := by rw [h0]; rfl
    have H0 := hide h0
    have hs' := text_le h0
    have hg := good_parse s hs' p hp
    have hbl : (boundN p).length = p.nodes.length := by simp [boundN]
    have HPA : Hid (∀ o, o = .cells #[.slice a1 n1 c1, .slice a2 n2 c2] 70 → ProgAt (w1.alloc o) w1.heap.size p.decls (boundN p) (.slice a1 n1 c1) (.slice a2 n2 c2)) := hide (fun o ho => by
      subst ho
      exact ⟨by simp, (World.cell?_alloc_at _ _ _ _ rfl).trans rfl, (World.cell?_alloc_at _ _ _ _ rfl).trans rfl, (own_zero hod).alloc _, by rw [hbl]; exact (own_zero hon).alloc _⟩)
    obtain ⟨L, hG, hR, hO⟩ := good_text h0
    have hst : seatsF s = plR (toks s) L := seats_text hG.sp
    have hpl := places_held hs' hp hG
    have hplay : playP ((eqsF p.decls).map Dc.place) sc = playK (seatsF s) sc := by rw [playP_eq, hpl, hst]
    obtain ⟨wa, hwa⟩ : ∃ wa, wa = w1.alloc (.cells #[.slice a1 n1 c1, .slice a2 n2 c2] 70) := ⟨_, rfl⟩
    have hba : Below w.heap.size w wa := by rw [hwa]; exact hb1.alloc hb1.size _
    have hPA : ProgAt wa w1.heap.size p.decls (boundN p) (.slice a1 n1 c1) (.slice a2 n2 c2) := by rw [hwa]; exact HPA.out _ rfl
    have HPL := hide (pplayable_any wa w1.heap.size p.decls (boundN p) _ _ hPA hg.wf.dl _ sc (HS.out.below hba))
    rw [hplay] at HPL
    obtain ⟨g1, g2, hB⟩ := held_of hs' hp hG
    have hi := declsInv _ _ _ DInv.start hp
    have hcovB : ∀ i, i < (boundN p).length → ∃ d ∈ p.decls, d.root ≤ i ∧ i < d.fin := fun i h => hi.cover i (by omega)
    have hnm0 : ∀ m ∈ boundN p, m.kind = 2 → 0 ≤ m.decl ∧ m.decl < (p.decls.length : Int) := fun m hm hk => by
      have h5 : badNameF p.decls (boundN p) 0 p.decls = none := by
        have h6 : (meaningF p.decls (boundN p)).1 = 0 := by
          have := h0
          unfold textF at this
          rw [if_neg (by omega), hp] at this
          exact this
        unfold meaningF at h6
        split at h6
        · cases h6
        · split at h6
          · cases h6
          · rename_i _ h7; exact h7
      exact ⟨hg.names h5 m hm hk, (hg.wf.decl m hm hk).2⟩
    obtain ⟨NV, hM, hSS⟩ := meant_of hR hG.types ins g1 g2 hB hcovB hg.wf.segs hnm0
    have hrk := ranked_of hR hB
    have h16 : p.decls.length ≤ 16 := by
      have e1 : L.length = p.decls.length := hB.dx.len
      have e2 : (eqL L).length + (inL L).length = L.length := by
        have : ∀ l : List Dl, (eqL l).length + (inL l).length = l.length := by
          intro l
          induction l with
          | nil => rfl
          | cons x r ih =>
            by_cases hx : x.kind = 0
            · simp [eqL, inL, hx] at ih ⊢; omega
            · simp [eqL, inL, hx] at ih ⊢; omega
        exact this L
      have := hR.few
      omega
    have HRUN : Hid (playK (seatsF s) sc = true → ∀ W, Below wa.heap.size wa W → Calls Try.prog 48 #[.pointer (some ⟨w1.heap.size, 0, none⟩), vX, .slice AS sc.length CS] W fun e w' => ∃ v TV VV, e = .returned v ∧ EvsOwn W.heap.size w' v (evsR (toks s) L ins sc) TV VV ∧ Below W.heap.size W w') := hide (fun hpk W hW => by
      have hpf : playF (toks s) L sc = true := by rw [← playK_eq, ← hst]; exact hpk
      obtain ⟨h400, hacts⟩ := (play_iff _ _ _).1 hpf
      have hWw : Below w.heap.size w W := hba.trans (hW.mono hba.size)
      have h := pplay_any W w1.heap.size p.decls (boundN p) _ _ (hPA.below hW) hg.wf hg.links hg.many vX _ sc (HS.out.below hWw) h400 (sol (toks s) L ins)
        (fun W' hW' => sof_any W' w1.heap.size p.decls (boundN p) (.slice a1 n1 c1) (.slice a2 n2 c2) vX ins NV ((hPA.below hW).below hW') hg.wf (HX.out.below (hWw.trans (hW'.mono hWw.size))) hM h16 _ hrk (sc.length / 2) (by omega) (sol (toks s) L ins) hSS)
        (fun i hi => by
          have hne := (hacts i hi).here
          cases hc : atR (toks s) L (actF sc i).k with
          | nil => exact absurd hc hne
          | cons j r =>
            have hj : j ∈ atR (toks s) L (actF sc i).k := by rw [hc]; simp
            unfold atR atG at hj
            rw [List.mem_filter] at hj
            cases hx : (eqL L)[j]? with
            | none => rw [hx] at hj; simp at hj
            | some x =>
              rw [hx] at hj
              have hxe : ((placeD (toks s) x : Nat) : Int) = (actF sc i).k := by simpa using hj.2
              exact ⟨placeD (toks s) x, (hO.eq (List.mem_of_getElem? hx)).2.2.2.2, hxe.symm⟩)
        (fun i hi => ⟨(hacts i hi).a0, (hacts i hi).b0, (hacts i hi).c0⟩) (play_acts hacts) (by rw [net_held hs' hp hG]; exact net_apart _ _) (valsR (toks s) L ins) (fun q m => vals_held hs' hp hG ins q m)
      rw [net_held hs' hp hG] at h
      exact h)
    have HGL := hide hG
    have HBA := hide hba
    have HSL := hide hs'
    rw [hwa] at HPL
    have HWA := hide hwa
    clear hM hSS hrk h16 hB hi hcovB hnm0 g1 g2 hod hon hdn hg hbl hpl hplay hPA hba hwa hG hR hO hst hp h0 hb1
    go_wp2_with fail
    refine HPL.out.mono ?_
    rw [← HWA.out]
    rintro e w2 ⟨rfl, hb2⟩
    have HB2 := hide hb2
    have HW2 : Hid (Below w.heap.size w w2) := hide (HBA.out.trans (hb2.mono HBA.out.size))
    clear hb2
    cases hpk : playK (seatsF s) sc with
    | false =>
      have HE : Hid (er = 11) := hide (by rw [HRE.out, if_neg (by rw [H0.out]; simp), hpk]; rfl)
      have HQ : Hid (∀ w', Q1 w.heap.size w' (.slice none 0 0)) := hide (fun w' => by rw [HRQ.out, if_neg (by rw [HE.out]; omega)]; exact ⟨_, _, rfl⟩)
      clear hpk
      go_wp2
      go_ret2
      exact ⟨_, by rw [HE.out]; rfl, HQ.out _, HW2.out⟩
    | true =>
      have HE : Hid (er = 0) := hide (by rw [HRE.out, if_neg (by rw [H0.out]; simp), hpk]; rfl)
      have HCL := hide (HRUN.out hpk w2 HB2.out)
      clear hpk
      go_wp2_with fail
      refine HCL.out.mono ?_
      rintro e w3 ⟨v, TV, VV, rfl, hE, hb3⟩
      have HW3 : Hid (Below w.heap.size w w3) := hide (HW2.out.trans (hb3.mono HW2.out.size))
      have HQ : Hid (Q1 w.heap.size w3 v) := hide (by
        rw [HRQ.out, if_pos HE.out]
        intro L' hG' _
        rw [evs_same HSL.out hG' HGL.out]
        have hle : w.heap.size ≤ w2.heap.size := HW2.out.size
        exact ⟨TV, VV, own_low hE.row hle, fun i h => own_low (hE.took i h) hle, fun i h => own_low (hE.vals i h) hle, hE.apT, hE.apV, hE.apTV, hE.neT, hE.neV⟩)
      clear hE hb3
      go_wp2
      go_ret2
      exact ⟨v, by rw [HE.out]; rfl, HQ.out, HW3.out⟩
theorem pc_row {B : Nat} {w : World} {v : Value} {ws : List Nat} (h : w.ownsRow B 3 1 v ws.length (pCells ws)) (hn : ws.length ≤ 1048576) : RowAt w v (ws.map fun (p : Nat) => (p : Int)) := by
  rcases h.2 with ⟨rfl, h0⟩ | ⟨g, cap, cur, rfl, hb, hg, h1, h2, h3, h4⟩
  · exact ⟨none, 0, by rw [List.length_map, h0], by rw [List.length_map]; omega, fun hp => by rw [List.length_map] at hp; omega⟩
  · refine ⟨_, _, by rw [List.length_map], by rw [List.length_map]; omega, fun hp => ⟨g, 0, rfl, (Array.getElem?_eq_some_iff.1 hg).1, fun c hc => ?_⟩⟩
    rw [List.length_map] at hc
    rw [Nat.zero_add, h.cellAt c (by omega), List.getElem_map]
    unfold pCells
    rw [List.getElem?_map, List.getElem?_eq_getElem hc]
    rfl
theorem seats_len (s : ByteArray) : (seatsF s).length ≤ s.size := by
  unfold seatsF
  rw [List.length_map]
  exact mkL_len _ _ _
end Go.Proofs.Ytmndgoapkmhglab
