import Derived.Test.Ytmndgoapkmhglabo06Dec
import Derived.Test.Ytmndgoapkmhglabo07PlyP
import Derived.Test.Ytmndgoapkmhglabo23JudI
import Derived.Test.Ytmndgoapkmhglabo29LawP
namespace Go.Proofs.Ytmndgoapkmhglab
theorem held_of {s : ByteArray} {p : PS} (_hs : s.size ≤ 1500) (hp : parseF s = .ok p) {L : List Dl} (hG : RGood s L) : p.decls = declsD (toks s) L 0 0 0 ∧ boundN p = (nodesD (toks s) L 0).map (bindF p.decls) ∧ Both2 (toks s) L p.decls (boundN p) := by
  obtain ⟨p', hp', h1, h2⟩ := hG.parse
  rw [hp] at hp'
  cases hp'
  have hb : boundN p = (nodesD (toks s) L 0).map (bindF p.decls) := by unfold boundN; rw [h2]
  refine ⟨h1, hb, ?_⟩
  rw [hb, h1]
  exact both2 (toks_F s) (toks_end s) L hG.sp hG.names
theorem links_held {s : ByteArray} {p : PS} (hs : s.size ≤ 1500) (hp : parseF s = .ok p) {L : List Dl} (hG : RGood s L) : linksF p.decls (boundN p) = routesR (toks s) L := by
  obtain ⟨h1, h2, hB⟩ := held_of hs hp hG
  exact links_eq (toks_F s) hB.N hB.sp hB.decl hB.dx (fun a d x hd hx hk => by rw [h1] at hd; have := declsD_num (toks s) L 0 0 0 a d x hd hx hk; rw [this, Nat.zero_add])
theorem text_le {s : ByteArray} (h : (textF s).1 = 0) : s.size ≤ 1500 := by
  by_cases hs : 1500 < s.size
  · unfold textF at h; rw [if_pos hs] at h; cases h
  · omega
def marksF (s : ByteArray) : List Nat := mkL s.size 0 s.data.toList
theorem fine_dig {t : Tk} (h : Fine t) (h3 : t.kind = 3) : isDig t = true ∧ (∀ c ∈ t.l, 48 ≤ c.toNat ∧ c.toNat ≤ 57) ∧ t.l ≠ [] := by
  rcases h with ⟨cl, hcl, hne, hall, hk⟩ | ⟨c, _, h4, hk⟩
  · obtain ⟨e1, e2⟩ := kind3_cls (hk.symm.trans h3)
    subst e1
    refine ⟨?_, fun c hc => cls_two (W_cls (hall c hc)), hne⟩
    unfold isDig
    cases hl : t.l with
    | nil => exact absurd hl hne
    | cons c r => rw [hl] at hall; simpa using hall c (by simp)
  · have := (kind3_cls (hk.symm.trans h3)).1
    omega
theorem toks_fine (s : ByteArray) (i : Nat) (h : (tkAt (toks s) i).kind ≠ 0) : Fine (tkAt (toks s) i) := by
  by_cases hi : i < (tk 0 s.data.toList).length
  · rw [toks_list, tkAt_left hi]; exact tk_fine _ _ _ rfl _ (tkAt_mem hi)
  · exfalso
    rw [toks_list] at h
    by_cases e : i = (tk 0 s.data.toList).length
    · rw [e, tkAt_mid] at h; exact h rfl
    · unfold tkAt at h
      rw [List.getD_eq_getElem?_getD, List.getElem?_eq_none (by simp; omega)] at h
      exact h rfl
theorem marks_text {s : ByteArray} {L : List Dl} (h : Spell (toks s) L 0) : marksF s = (eqL L).map fun x => lastD (tkAt (toks s) (x.i + 3)) := by
  have hs := size_list s
  unfold marksF
  rw [marks_tk s.data.toList.length s.size 0 s.data.toList rfl (by omega), ← marks_spell (toks_F s) (toks_end s) (fun i h3 => (fine_dig (toks_fine s i (by omega)) h3).1) L 0 h]
  rw [List.drop_zero, toks_list, marksT_end _ rfl]
end Go.Proofs.Ytmndgoapkmhglab
namespace Go.Proofs.Ytmndgoapkmhglab
open Go.RowKit
theorem numL_at : ∀ (l : List UInt8) (k v : Nat), numL k l = some v → k ≤ v ∧ ∃ c, l[v - k]? = some c ∧ W 2 c = true := by
  intro l
  induction l with
  | nil => intro k v h; cases h
  | cons c r ih =>
    intro k v h
    unfold numL at h
    split at h
    · rename_i hc
      cases h
      refine ⟨by omega, ?_⟩
      rw [Nat.add_sub_cancel_left]
      have key : ∀ (r : List UInt8) (c : UInt8), W 2 c = true → ∃ d, (c :: r)[(r.takeWhile (W 2)).length]? = some d ∧ W 2 d = true := by
        intro r
        induction r with
        | nil => intro c hc; exact ⟨c, rfl, hc⟩
        | cons d r ih =>
          intro c hc
          rw [List.takeWhile_cons]
          split
          · rename_i hd; rw [List.length_cons, List.getElem?_cons_succ]; exact ih d hd
          · exact ⟨c, rfl, hc⟩
      exact key r c hc
    · obtain ⟨h1, d, h2, h3⟩ := ih (k + 1) v h
      exact ⟨by omega, d, by rw [show v - k = (v - (k + 1)) + 1 by omega, List.getElem?_cons_succ]; exact h2, h3⟩
theorem mkL_at : ∀ n f k (l : List UInt8), l.length = n → ∀ m ∈ mkL f k l, k ≤ m ∧ ∃ c, l[m - k]? = some c ∧ W 2 c = true := by
  intro n
  induction n using Nat.strongRecOn with
  | _ n ih =>
    intro f k l hn m hm
    cases f with
    | zero => simp [mkL] at hm
    | succ f =>
      cases l with
      | nil => simp [mkL] at hm
      | cons c r =>
        simp only [List.length_cons] at hn
        simp only [mkL] at hm
        have hl := take_drop_len (W 1) r
        have hsp : ∀ j, (r.dropWhile (W 1))[j]? = (c :: r)[j + (1 + (r.takeWhile (W 1)).length)]? := fun j => by
          rw [show j + (1 + (r.takeWhile (W 1)).length) = ((r.takeWhile (W 1)).length + j) + 1 by omega, List.getElem?_cons_succ, ← takeWhile_drop, List.getElem?_drop]
        split at hm
        · rcases List.mem_append.1 hm with hm | hm
          · split at hm
            · cases hv : numL (k + 1 + (r.takeWhile (W 1)).length) (r.dropWhile (W 1)) with
              | none => rw [hv] at hm; simp at hm
              | some v =>
                rw [hv] at hm
                simp at hm
                subst hm
                obtain ⟨h1, d, h2, h3⟩ := numL_at _ _ _ hv
                rw [hsp] at h2
                exact ⟨by omega, d, by rw [← h2]; congr 1; omega, h3⟩
            · simp at hm
          · obtain ⟨h1, d, h2, h3⟩ := ih _ (by omega) f _ _ rfl m hm
            rw [hsp] at h2
            exact ⟨by omega, d, by rw [← h2]; congr 1; omega, h3⟩
        · obtain ⟨h1, d, h2, h3⟩ := ih _ (by omega) f _ _ rfl m hm
          exact ⟨by omega, d, by rw [show m - k = (m - (k + 1)) + 1 by omega, List.getElem?_cons_succ]; exact h2, h3⟩
theorem marks_in (s : ByteArray) : ∀ m ∈ marksF s, m < s.size ∧ 48 ≤ byt s m ∧ byt s m ≤ 57 := by
  intro m hm
  obtain ⟨_, c, h1, h2⟩ := mkL_at _ _ _ _ rfl m hm
  have hl := size_list s
  rw [Nat.sub_zero] at h1
  have hlt : m < s.data.toList.length := by
    rcases Nat.lt_or_ge m s.data.toList.length with h | h
    · exact h
    · rw [List.getElem?_eq_none h] at h1; cases h1
  have hb : byt s m = c.toNat := by unfold byt; rw [List.getD_eq_getElem?_getD, h1]; rfl
  exact ⟨by omega, by rw [hb]; exact cls_two (W_cls h2)⟩
def seatsF (s : ByteArray) : List Nat := (marksF s).map fun m => byt s m - 48
theorem mkL_len : ∀ f k (l : List UInt8), (mkL f k l).length ≤ f := by
  intro f
  induction f with
  | zero => intro k l; simp [mkL]
  | succ f ih =>
    intro k l
    cases l with
    | nil => simp [mkL]
    | cons c r =>
      simp only [mkL]
      have h1 := ih (k + 1) r
      have h2 := ih (k + 1 + (r.takeWhile (W 1)).length) (r.dropWhile (W 1))
      split
      · rw [List.length_append]
        have : ((if c :: r.takeWhile (W 1) = kAt then (numL (k + 1 + (r.takeWhile (W 1)).length) (r.dropWhile (W 1))).toList else [])).length ≤ 1 := by
          split
          · cases numL (k + 1 + (r.takeWhile (W 1)).length) (r.dropWhile (W 1)) <;> simp
          · simp
        omega
      · omega
def OpsAt (w : World) (v : Value) (ops : List OpF) : Prop :=
  ∃ (A : Option Addr) (C : Nat), v = .slice A ops.length C ∧ ops.length ≤ 4398046511104 ∧ (0 < ops.length → ∃ b o, A = some ⟨b, o, none⟩ ∧ b < w.heap.size ∧ ∀ i, (h : i < ops.length) →
    w.cell? ⟨b, o + i * 4, none⟩ = some (.int .i64 ops[i].k) ∧ w.cell? ⟨b, o + i * 4 + 1, none⟩ = some (.int .i64 ops[i].a) ∧ w.cell? ⟨b, o + i * 4 + 2, none⟩ = some (.int .i64 ops[i].b) ∧ w.cell? ⟨b, o + i * 4 + 3, none⟩ = some (.int .i64 ops[i].c))
theorem OpsAt.below {w w' : World} {v : Value} {ops : List OpF} (h : OpsAt w v ops) (hb : Below w.heap.size w w') : OpsAt w' v ops := by
  obtain ⟨A, C, hv, hm, hc⟩ := h
  refine ⟨A, C, hv, hm, fun hp => ?_⟩
  obtain ⟨b, o, h1, h2, h3⟩ := hc hp
  refine ⟨b, o, h1, Nat.lt_of_lt_of_le h2 hb.size, fun i hi => ?_⟩
  obtain ⟨k0, k1, k2, k3⟩ := h3 i hi
  exact ⟨(hb.cell (p := ⟨b, o + i * 4, none⟩) h2).trans k0, (hb.cell (p := ⟨b, o + i * 4 + 1, none⟩) h2).trans k1, (hb.cell (p := ⟨b, o + i * 4 + 2, none⟩) h2).trans k2, (hb.cell (p := ⟨b, o + i * 4 + 3, none⟩) h2).trans k3⟩
end Go.Proofs.Ytmndgoapkmhglab
namespace Go.Proofs.Ytmndgoapkmhglab
open Go.RowKit
attribute [local go_sem ↓] Go.wp_at_zero Go.wp_at_succ
set_option maxHeartbeats 1000000 in
set_option maxRecDepth 100000 in
theorem knext_any (w : World) (v : Value) (sc : List OpF) (h : OpsAt w v sc) (i : Nat) (hi : i < sc.length) :
    Calls Try.prog 19 #[v, .int .i64 i] w fun e w' => e = .returned (.int .i64 (nextF sc i)) ∧ Below w.heap.size w w' := by
  obtain ⟨A, C, rfl, hm, hc⟩ := h
  obtain ⟨b, o, rfl, hb, hr⟩ := hc (by omega)
  have HR := hide hr
  have hw : IntKind.i64.wrap ((i : Int) + 1) = ((i + 1 : Nat) : Int) := by rw [IntKind.wrap_i64]; omega
  clear hc hr
  go_enter Try.func19, Try.ntmps19
  go_wp2
  go_loopw [5] (fun vk wr => ∃ k : Nat, i < k ∧ k ≤ sc.length ∧ vk = .int .i64 k ∧ Below w.heap.size w wr ∧ laterG sc i (sc.length - k) k = laterF sc i) (fun vk _ => sc.length - (intOf vk).toNat)
  case atStart => exact ⟨i + 1, by omega, by omega, by first | rfl | rw [hw] | simp, Below.refl _ _, rfl⟩
  case round =>
    obtain ⟨k, hik, hk, rfl, hbr, hl⟩ := hrel
    have HL := hide hl
    have HBR := hide hbr
    clear hl
    by_cases hkl : k < sc.length
    · have x1 := (hbr.cell (p := ⟨b, o + k * 4, none⟩) hb).trans (HR.out k hkl).1
      have x2 := (hbr.cell (p := ⟨b, o + i * 4, none⟩) hb).trans (HR.out i hi).1
      have x3 := (hbr.cell (p := ⟨b, o + k * 4 + 1, none⟩) hb).trans (HR.out k hkl).2.1
      have x4 := (hbr.cell (p := ⟨b, o + i * 4 + 1, none⟩) hb).trans (HR.out i hi).2.1
      rw [actF_get hkl] at x1 x3
      rw [actF_get hi] at x2 x4
      have j1 : (0 : Int) ≤ (i : Int) := by omega
      have j2 : (i : Int) < (sc.length : Int) := by omega
      have j3 : (0 : Int) ≤ (k : Int) := by omega
      have j4 : (k : Int) < (sc.length : Int) := by omega
      clear hbr
      by_cases he : (actF sc k).k = (actF sc i).k
      · have HN : Hid (nextF sc i = wrap64 ((actF sc k).a - (actF sc i).a)) := hide (by
          have e : laterF sc i = (k : Int) := by rw [← HL.out, later_step hkl, if_pos he]
          unfold nextF
          rw [e, if_neg (by omega), Int.toNat_natCast, IntKind.wrap_i64]
          unfold wrap64
          omega)
        have q1 : ((actF sc k).k == (actF sc i).k) = true := by rw [he]; simp
        clear he
        go_wp2_with fail
        go_quiet (fail)
        go_wp2_with fail
        first | go_quiet (fail) | skip
        go_wp2
        go_ret
        exact ⟨by rw [HN.out]; rfl, by first | exact HBR.out | exact below_drewN HBR.out _ | exact below_drewN (below_drewN HBR.out _) _⟩
      · have HN : Hid (laterG sc i (sc.length - (k + 1)) (k + 1) = laterF sc i) := hide (by rw [← HL.out, later_step hkl, if_neg he])
        have q1 : ((actF sc k).k == (actF sc i).k) = false := by rw [beq_eq_false_iff_ne]; exact he
        clear he
        go_wp2_with fail
        go_quiet (fail)
        go_wp2
        go_roundw
        case rel => exact ⟨k + 1, by omega, by omega, by go_num, by first | exact HBR.out | exact below_drewN HBR.out _, HN.out⟩
        case measure => simp [intOf]; omega
    · have ek : k = sc.length := by omega
      subst ek
      have z1 : ¬ (sc.length : Int) < (sc.length : Int) := by omega
      have HN : Hid (nextF sc i = -1) := hide (by
        have e : laterF sc i = -1 := by rw [← HL.out, Nat.sub_self]; rfl
        unfold nextF
        rw [e]; rfl)
      go_wp2
      go_ret
      exact ⟨by rw [HN.out]; rfl, by first | exact HBR.out | exact below_drewN HBR.out _⟩
end Go.Proofs.Ytmndgoapkmhglab
namespace Go.Proofs.Ytmndgoapkmhglab
theorem tk_sub : ∀ n k (l : List UInt8), l.length = n → ∀ t ∈ tk k l, k ≤ t.pos ∧ ∀ j (hj : j < t.l.length), l[t.pos - k + j]? = some t.l[j] := by
  intro n
  induction n using Nat.strongRecOn with
  | _ n ih =>
    intro k l hn t ht
    cases l with
    | nil => rw [tk_nil] at ht; simp at ht
    | cons c r =>
      simp only [List.length_cons] at hn
      by_cases h0 : cls c.toNat = 0
      · rw [tk_blank h0] at ht
        obtain ⟨h1, h2⟩ := ih r.length (by omega) (k + 1) r rfl t ht
        refine ⟨by omega, fun j hj => ?_⟩
        rw [show t.pos - k + j = (t.pos - (k + 1) + j) + 1 by omega, List.getElem?_cons_succ]
        exact h2 j hj
      · by_cases h12 : cls c.toNat = 1 ∨ cls c.toNat = 2
        · rw [tk_word h12] at ht
          have hl := take_drop_len (W (cls c.toNat)) r
          rcases List.mem_cons.1 ht with rfl | ht
          · refine ⟨Nat.le_refl _, fun j hj => ?_⟩
            have e : (tokW k (c :: r.takeWhile (W (cls c.toNat))) (cls c.toNat)).l = c :: r.takeWhile (W (cls c.toNat)) := tokW_l _ _ _
            simp only [e] at hj ⊢
            show (c :: r)[k - k + j]? = _
            rw [Nat.sub_self, Nat.zero_add, ← List.getElem?_eq_getElem hj]
            cases j with
            | zero => rfl
            | succ j =>
              rw [List.getElem?_cons_succ, List.getElem?_cons_succ]
              simp at hj
              have e2 := congrArg (fun l => l[j]?) (List.takeWhile_append_dropWhile (p := W (cls c.toNat)) (l := r))
              rw [← e2, List.getElem?_append_left hj]
          · obtain ⟨h1, h2⟩ := ih _ (by omega) _ _ rfl t ht
            refine ⟨by omega, fun j hj => ?_⟩
            have h3 := h2 j hj
            rw [← takeWhile_drop, List.getElem?_drop] at h3
            rw [← h3, show t.pos - k + j = ((r.takeWhile (W (cls c.toNat))).length + (t.pos - (k + 1 + (r.takeWhile (W (cls c.toNat))).length) + j)) + 1 by omega, List.getElem?_cons_succ]
        · rw [tk_one (by omega)] at ht
          rcases List.mem_cons.1 ht with rfl | ht
          · refine ⟨Nat.le_refl _, fun j hj => ?_⟩
            have e : (tokW k [c] (cls c.toNat)).l = [c] := tokW_l _ _ _
            simp only [e] at hj ⊢
            simp at hj
            subst hj
            show (c :: r)[k - k + 0]? = _
            rw [Nat.sub_self]; rfl
          · obtain ⟨h1, h2⟩ := ih r.length (by omega) (k + 1) r rfl t ht
            refine ⟨by omega, fun j hj => ?_⟩
            rw [show t.pos - k + j = (t.pos - (k + 1) + j) + 1 by omega, List.getElem?_cons_succ]
            exact h2 j hj
theorem toks_sub (s : ByteArray) (i : Nat) (h : (tkAt (toks s) i).kind ≠ 0) (j : Nat) (hj : j < (tkAt (toks s) i).l.length) : byt s ((tkAt (toks s) i).pos + j) = ((tkAt (toks s) i).l[j]).toNat := by
  have hi : i < (tk 0 s.data.toList).length := by
    rcases Nat.lt_or_ge i (tk 0 s.data.toList).length with hi | hi
    · exact hi
    · exfalso
      rw [toks_list] at h
      by_cases e : i = (tk 0 s.data.toList).length
      · rw [e, tkAt_mid] at h; exact h rfl
      · unfold tkAt at h
        rw [List.getD_eq_getElem?_getD, List.getElem?_eq_none (by simp; omega)] at h
        exact h rfl
  have hm : tkAt (toks s) i ∈ tk 0 s.data.toList := by rw [toks_list, tkAt_left hi]; exact tkAt_mem hi
  generalize tkAt (toks s) i = t at hm hj ⊢
  have := (tk_sub _ 0 s.data.toList rfl t hm).2 j hj
  rw [Nat.sub_zero] at this
  unfold byt
  rw [List.getD_eq_getElem?_getD, this]
  rfl
theorem val_last (l : List UInt8) (hd : ∀ c ∈ l, 48 ≤ c.toNat ∧ c.toNat ≤ 57) (hne : l ≠ []) (h : valOf l < 4) : ∃ (r : List UInt8) (d : UInt8), l = r ++ [d] ∧ d.toNat - 48 = valOf l ∧ valOf r = 0 := by
  rcases List.eq_nil_or_concat l with rfl | ⟨r, d, rfl⟩
  · exact absurd rfl hne
  · rw [List.concat_eq_append] at *
    rw [valOf_snoc] at h ⊢
    exact ⟨r, d, rfl, by omega, by omega⟩
theorem place_last {s : ByteArray} {k : Nat} (h3 : (tkAt (toks s) k).kind = 3) (h4 : valOf (lAt (toks s) k) < 4) : byt s (lastD (tkAt (toks s) k)) - 48 = valOf (lAt (toks s) k) := by
  obtain ⟨_, hd, hne⟩ := fine_dig (toks_fine s k (by omega)) h3
  obtain ⟨r, d, he, hv, _⟩ := val_last _ hd hne h4
  have hlen : (tkAt (toks s) k).l.length = r.length + 1 := by rw [he]; simp
  have hb := toks_sub s k (by omega) r.length (by omega)
  unfold lastD
  rw [hlen, show (tkAt (toks s) k).pos + (r.length + 1) - 1 = (tkAt (toks s) k).pos + r.length by omega, hb, ← hv]
  congr 2
  simp [he]
theorem seats_text {s : ByteArray} {L : List Dl} (h : Spell (toks s) L 0) : seatsF s = (eqL L).map (placeD (toks s)) := by
  unfold seatsF
  rw [marks_text h, List.map_map]
  refine List.map_congr_left fun x hx => ?_
  have hm := List.mem_filter.1 hx
  have hk : x.kind ≠ 0 := by simpa using hm.2
  rcases (spell_mem L 0 h x hm.1).2.2 with ⟨h0, _⟩ | ⟨_, _, _, h4, _⟩
  · exact absurd h0 hk
  · exact place_last h4.1 h4.2
end Go.Proofs.Ytmndgoapkmhglab
namespace Go.Proofs.Ytmndgoapkmhglab
open Go.RowKit
attribute [local go_sem ↓] Go.wp_at_zero Go.wp_at_succ
set_option maxHeartbeats 1000000 in
theorem pwithin_any (x l m : Int) (w : World) :
    Calls Try.prog 73 #[.int .i64 x, .int .i64 l, .int .i64 m] w fun e w' => e = .returned (.bool (inB x l m)) ∧ Below w.heap.size w w' := by
  by_cases h1 : l ≤ x
  · have h1' : x ≥ l := h1
    by_cases h2 : x ≤ m
    · go_enter Try.func73, Try.ntmps73
      go_wp2
      go_ret
      exact ⟨by simp [inB, h1, h2], Below.refl _ _⟩
    · go_enter Try.func73, Try.ntmps73
      go_wp2
      go_ret
      exact ⟨by simp [inB, h1, h2], Below.refl _ _⟩
  · have h1' : ¬ x ≥ l := h1
    go_enter Try.func73, Try.ntmps73
    go_wp2
    go_ret
    exact ⟨by simp [inB]; omega, Below.refl _ _⟩
set_option maxHeartbeats 1000000 in
theorem pboth_any (o : OpF) (l m : Int) (w : World) :
    Calls Try.prog 74 #[.agg #[.int .i64 o.k, .int .i64 o.a, .int .i64 o.b, .int .i64 o.c], .int .i64 l, .int .i64 m] w fun e w' => e = .returned (.bool (bothB o l m)) ∧ Below w.heap.size w w' := by
  obtain ⟨b0, hb0⟩ : ∃ b0, b0 = w.alloc (.cells #[.int .i64 o.k, .int .i64 o.a, .int .i64 o.b, .int .i64 o.c] 43) := ⟨_, rfl⟩
  have HW0 : Hid (Below w.heap.size w b0) := hide (by rw [hb0]; exact (Below.refl _ _).alloc (Nat.le_refl _) _)
  have HC : Hid (∀ W : World, Below b0.heap.size b0 W → W.cell? ⟨w.heap.size, 2, none⟩ = some (.int .i64 o.b) ∧ W.cell? ⟨w.heap.size, 3, none⟩ = some (.int .i64 o.c)) := hide fun W hW => by
    have hy : W.heap[w.heap.size]? = some (.cells #[.int .i64 o.k, .int .i64 o.a, .int .i64 o.b, .int .i64 o.c] 43 (0, 0)) := by
      rw [hW.block _ (by rw [hb0]; simp), hb0]; exact heap_alloc_new _ _
    refine ⟨?_, ?_⟩ <;> (rw [cell_of_row _ _ _ _ _ _ hy]; rfl)
  have HB : Hid (bothB o l m = (inB o.b l m && inB o.c l m)) := hide rfl
  have HP1 := hide (pwithin_any o.b l m)
  have HP2 := hide (pwithin_any o.c l m)
  generalize inB o.b l m = p1 at *
  generalize inB o.c l m = p2 at *
  go_enter Try.func74, Try.ntmps74
  go_wp2_with fail
  rw [← hb0]
  clear hb0
  refine (HP1.out b0).mono ?_
  rintro e w1 ⟨rfl, hb1⟩
  obtain ⟨c2, c3⟩ := HC.out w1 hb1
  have HB1 : Hid (Below w.heap.size w w1) := hide (HW0.out.trans (hb1.mono HW0.out.size))
  clear hb1
  cases p1 with
  | false =>
    go_wp2
    go_ret
    exact ⟨by rw [HB.out]; rfl, HB1.out⟩
  | true =>
    go_wp2_with fail
    refine (HP2.out w1).mono ?_
    rintro e w2 ⟨rfl, hb2⟩
    have HB2 : Hid (Below w.heap.size w w2) := hide (HB1.out.trans (hb2.mono HB1.out.size))
    clear hb2 c2 c3
    go_wp2
    go_ret
    exact ⟨by rw [HB.out]; rfl, HB2.out⟩
set_option maxHeartbeats 1000000 in
set_option maxRecDepth 100000 in
theorem ppeopled_any (w : World) (ve : Value) (es : List Dc) (B : Nat) (he : w.ownsRow B 126 7 ve es.length (dcCells es)) (hl : es.length ≤ 1501) (q : Int) :
    Calls Try.prog 72 #[ve, .int .i64 q] w fun e w' => e = .returned (.bool (hereK (es.map Dc.place) q)) ∧ Below w.heap.size w w' := by
  obtain ⟨av, cap, rfl, hsh⟩ := own_shape he
  have HO := hide (own_zero he)
  have HSH := hide hsh
  clear he hsh
  go_enter Try.func72, Try.ntmps72
  go_wp2
  go_loopw [9] (fun i wr => ∃ k : Nat, k ≤ es.length ∧ i = .int .i64 k ∧ Below w.heap.size w wr ∧ hereK ((es.drop k).map Dc.place) q = hereK (es.map Dc.place) q) (fun i _ => es.length - (intOf i).toNat)
  case atStart => exact ⟨0, Nat.zero_le _, rfl, Below.refl _ _, rfl⟩
  case round =>
    obtain ⟨k, hk, rfl, hbel, hrec⟩ := hrel
    by_cases hlt : k < es.length
    · obtain ⟨g, rfl, _, hg2⟩ := HSH.out (by omega)
      obtain ⟨a, ha⟩ : ∃ a, a = es[k]'hlt := ⟨_, rfl⟩
      rw [drop_at es k hlt, ← ha] at hrec
      obtain ⟨x0, x1, x2, x3, x4, x5, x6⟩ := dc_later HO.out hbel hg2 hlt a ha
      have j1 : (0 : Int) ≤ (k : Int) := by omega
      have j2 : (k : Int) < (es.length : Int) := by omega
      have HR : Hid (hereK (es.map Dc.place) q = (((a.place : Int) == q) || hereK ((es.drop (k + 1)).map Dc.place) q)) := hide (by rw [← hrec]; rfl)
      clear ha hrec
      obtain ⟨pq, hpq⟩ : ∃ pq, (((a.place : Nat) : Int) == q) = pq := ⟨_, rfl⟩
      rw [hpq] at HR
      cases pq with
      | true =>
        go_wp2
        go_ret
        exact ⟨by rw [HR.out]; rfl, hbel.alloc hbel.size _⟩
      | false =>
        go_wp2
        go_roundw
        case rel => exact ⟨k + 1, by omega, by go_num, hbel.alloc hbel.size _, by rw [HR.out]; rfl⟩
        case measure => simp [intOf]; omega
    · have HR : Hid (hereK (es.map Dc.place) q = false) := hide (by rw [← hrec, List.drop_of_length_le (by omega)]; rfl)
      clear hrec
      go_wp2
      go_ret
      exact ⟨by rw [HR.out]; rfl, hbel⟩
abbrev OpF.av (o : OpF) : Value := .agg #[.int .i64 o.k, .int .i64 o.a, .int .i64 o.b, .int .i64 o.c]
def aheadV (sc : List OpF) (i : Nat) : Value := .tuple #[((aheadP sc i).map fun k => (actF sc k).av).getD (.agg #[.int .i64 0, .int .i64 0, .int .i64 0, .int .i64 0]), .bool (aheadP sc i).isSome]
set_option maxHeartbeats 1000000 in
set_option maxRecDepth 100000 in
theorem pahead_any (w : World) (v : Value) (sc : List OpF) (h : OpsAt w v sc) (i : Nat) (hi : i < sc.length) :
    Calls Try.prog 77 #[v, .int .i64 i] w fun e w' => e = .returned (aheadV sc i) ∧ Below w.heap.size w w' := by
  obtain ⟨A, C, rfl, hm, hc⟩ := h
  obtain ⟨b, o, rfl, hb, hr⟩ := hc (by omega)
  have HR := hide hr
  have hw : IntKind.i64.wrap ((i : Int) - 1) = (i : Int) - 1 := by rw [IntKind.wrap_i64]; omega
  have HAV : Hid (aheadV sc i = .tuple #[((aheadG sc i i).map fun k => (actF sc k).av).getD (.agg #[.int .i64 0, .int .i64 0, .int .i64 0, .int .i64 0]), .bool (aheadG sc i i).isSome]) := hide rfl
  clear hc hr
  go_enter Try.func77, Try.ntmps77
  go_wp2
  go_loopw [6] (fun vk wr => ∃ k : Nat, k ≤ i ∧ vk = .int .i64 ((k : Int) - 1) ∧ Below w.heap.size w wr ∧ w.heap.size < wr.heap.size ∧ wr.heap[w.heap.size]? = some (.cells #[.int .i64 0, .int .i64 0, .int .i64 0, .int .i64 0] 43 (0, 0)) ∧ aheadG sc i k = aheadG sc i i) (fun vk _ => (intOf vk + 1).toNat)
  case atStart => exact ⟨i, Nat.le_refl _, by first | rfl | rw [hw], (Below.refl _ _).alloc (Nat.le_refl _) _, by simp, heap_alloc_new _ _, rfl⟩
  case round =>
    obtain ⟨k, hk, rfl, hbr, hNl, hNc, hl⟩ := hrel
    have HL := hide hl
    have HBR := hide hbr
    have HNC := hide hNc
    have z0 := (cell_of_row wr w.heap.size 0 _ _ _ hNc)
    have z1 := (cell_of_row wr w.heap.size 1 _ _ _ hNc)
    have z2 := (cell_of_row wr w.heap.size 2 _ _ _ hNc)
    have z3 := (cell_of_row wr w.heap.size 3 _ _ _ hNc)
    simp at z0 z1 z2 z3
    have f0 := (frozen_of_row wr w.heap.size 0 _ _ hNc)
    have f1 := (frozen_of_row wr w.heap.size 1 _ _ hNc)
    have f2 := (frozen_of_row wr w.heap.size 2 _ _ hNc)
    have f3 := (frozen_of_row wr w.heap.size 3 _ _ hNc)
    clear hl hNc
    cases k with
    | succ k =>
      have hkl : k < sc.length := by omega
      have e1 : ((k + 1 : Nat) : Int) - 1 = (k : Int) := by omega
      rw [e1]
      have X := HR.out k hkl
      rw [actF_get hkl] at X
      have x0 := (hbr.cell (p := ⟨b, o + k * 4, none⟩) hb).trans X.1
      have x1 := (hbr.cell (p := ⟨b, o + k * 4 + 1, none⟩) hb).trans X.2.1
      have x2 := (hbr.cell (p := ⟨b, o + k * 4 + 2, none⟩) hb).trans X.2.2.1
      have x3 := (hbr.cell (p := ⟨b, o + k * 4 + 3, none⟩) hb).trans X.2.2.2
      have y0 := (hbr.cell (p := ⟨b, o + i * 4, none⟩) hb).trans (HR.out i hi).1
      rw [actF_get hi] at y0
      have j1 : (0 : Int) ≤ (i : Int) := by omega
      have j2 : (i : Int) < (sc.length : Int) := by omega
      have j3 : (0 : Int) ≤ (k : Int) := by omega
      have j4 : (k : Int) < (sc.length : Int) := by omega
      have j5 : (k : Int) ≥ 0 := by omega
      have HG : Hid (aheadG sc i i = if (actF sc k).k = (actF sc i).k then some k else aheadG sc i k) := hide (by rw [← HL.out]; rfl)
      have hkw : IntKind.i64.wrap ((k : Int) - 1) = (k : Int) - 1 := by rw [IntKind.wrap_i64]; omega
      clear hbr X
      by_cases he : (actF sc k).k = (actF sc i).k
      · have HF : Hid (aheadG sc i i = some k) := hide (by rw [HG.out, if_pos he])
        have q1 : ((actF sc k).k == (actF sc i).k) = true := by rw [he]; simp
        have HV : Hid (aheadV sc i = .tuple #[.agg #[.int .i64 (actF sc k).k, .int .i64 (actF sc k).a, .int .i64 (actF sc k).b, .int .i64 (actF sc k).c], .bool true]) := hide (by rw [HAV.out, HF.out]; rfl)
        clear he HG
        generalize (actF sc k).k = u0 at *
        generalize (actF sc k).a = u1 at *
        generalize (actF sc k).b = u2 at *
        generalize (actF sc k).c = u3 at *
        generalize (actF sc i).k = v0 at *
        go_wp2_with fail
        go_quiet (fail)
        go_wp2
        (try simp only [Exit.inBlock, Exit.then])
        refine bodyPost_ret (v := .tuple #[.agg #[.int .i64 u0, .int .i64 u1, .int .i64 u2, .int .i64 u3], .bool true]) (by simp [results, Try.results77, go_sem, z0, z1, z2, z3]) rfl ?_
        refine ⟨by rw [HV.out], ?_⟩
        have hb0 : Below w.heap.size w (wr.drewN nq) := below_drewN HBR.out _
        exact ((((hb0.setCell (Nat.le_refl _) _).setCell (Nat.le_refl _) _).setCell (Nat.le_refl _) _).setCell (Nat.le_refl _) _)
      · have HF : Hid (aheadG sc i k = aheadG sc i i) := hide (by rw [HG.out, if_neg he])
        have q1 : ((actF sc k).k == (actF sc i).k) = false := by rw [beq_eq_false_iff_ne]; exact he
        clear he HG x1 x2 x3
        generalize (actF sc k).k = u0 at *
        generalize (actF sc i).k = v0 at *
        go_wp2_with fail
        go_quiet (fail)
        go_wp2
        go_roundw
        case rel => exact ⟨k, by omega, by first | rfl | rw [hkw], by first | exact HBR.out | exact below_drewN HBR.out _, by first | exact hNl | (simp; exact hNl), by first | exact HNC.out | (simp; exact HNC.out), HF.out⟩
        case measure => simp [intOf]
    | zero =>
      have e1 : ((0 : Nat) : Int) - 1 = -1 := rfl
      rw [e1]
      have HF : Hid (aheadG sc i i = none) := hide (by rw [← HL.out]; rfl)
      go_wp2
      (try simp only [Exit.inBlock, Exit.then])
      refine bodyPost_ret (v := .tuple #[.agg #[.int .i64 0, .int .i64 0, .int .i64 0, .int .i64 0], .bool false]) (by simp [results, Try.results77, go_sem, z0, z1, z2, z3]) rfl ?_
      refine ⟨by rw [HAV.out, HF.out]; rfl, ?_⟩
      exact ((((HBR.out.setCell (Nat.le_refl _) _).setCell (Nat.le_refl _) _).setCell (Nat.le_refl _) _).setCell (Nat.le_refl _) _)
end Go.Proofs.Ytmndgoapkmhglab
namespace Go.Proofs.Ytmndgoapkmhglab
theorem places_held {s : ByteArray} {p : PS} (hs : s.size ≤ 1500) (hp : parseF s = .ok p) {L : List Dl} (hG : RGood s L) : (eqsF p.decls).map Dc.place = plR (toks s) L := by
  obtain ⟨_, _, hB⟩ := held_of hs hp hG
  have hE : All2 (DX (toks s) (bindF p.decls) (boundN p)) (eqsF p.decls) (eqL L) := All2.filter (fun d x h => by rw [h.kind]) hB.dx
  have hk : ∀ x ∈ eqL L, x.kind ≠ 0 := fun x hx => by have := (List.mem_filter.1 hx).2; simpa using this
  have key : ∀ (l : List Dc) (m : List Dl), (∀ x ∈ m, x.kind ≠ 0) → All2 (DX (toks s) (bindF p.decls) (boundN p)) l m → l.map Dc.place = m.map (placeD (toks s)) := by
    intro l
    induction l with
    | nil => intro m _ h; cases m with
      | nil => rfl
      | cons x m => exact h.elim
    | cons d l ih => intro m hm h; cases m with
      | nil => exact h.elim
      | cons x m => rw [List.map_cons, List.map_cons, h.1.place (hm x (by simp)), ih m (fun y hy => hm y (List.mem_cons_of_mem _ hy)) h.2]
  exact key _ _ hk hE
end Go.Proofs.Ytmndgoapkmhglab
