import Derived.Test.YtghomdecppfonaaM45PfxB
import Derived.Test.YtghomdecppfonaaM55MovC
/- Plain mathematics: what a text is found to be whose places were turned. -/
namespace Go.Proofs.Ytghomdecppfonaa

theorem Ans.one {ts : List Tk} : ∀ {n : Nat} {X : List UInt8} {d : Int} {i : Nat} {r : Int}, Ans ts n X d i r → ∀ {n' : Nat} {r' : Int}, Ans ts n' X d i r' → r = r' := by
  intro n X d i r h
  induction h with
  | done n X d i hi hX hk =>
    intro n' r' h'
    cases h' with
    | done => rfl
    | fail _ _ _ _ _ _ _ h80 _ => exact absurd ⟨rfl, hk⟩ h80
    | step _ _ _ _ _ _ m u _ _ h80 _ _ => exact absurd ⟨rfl, hk⟩ h80
  | fail n x X d i hi hX h80 hr =>
    intro n' r' h'
    cases h' with
    | done _ _ _ _ _ _ hk => exact absurd ⟨rfl, hk⟩ h80
    | fail => rfl
    | step _ _ _ _ _ _ m u _ _ _ hr' _ => rw [hr'] at hr; cases hr
  | step n x X d i r m u hi hX h80 hr hn ih =>
    intro n' r' h'
    cases h' with
    | done _ _ _ _ _ _ hk => exact absurd ⟨rfl, hk⟩ h80
    | fail _ _ _ _ _ _ _ _ hr' => rw [hr] at hr'; cases hr'
    | step _ _ _ _ _ _ m' u' _ _ _ hr' hn' =>
      rw [hr] at hr'
      simp only [Prod.mk.injEq, and_true] at hr'
      obtain ⟨rfl, rfl⟩ := hr'
      exact ih hn'

section
variable {ts ts' : List Tk} {L : List Dl} {g : Nat → Nat} (H : MovT ts ts' L g)
include H

theorem MovT.rule (x : Nat) (i : Nat) (d : Int) : ruleF x (rtok (tkAt ts' i)) d = ruleF x (rtok (tkAt ts i)) d := by
  by_cases h : ∃ y ∈ eqL L, i = y.i + 3
  · obtain ⟨y, hy, rfl⟩ := h
    obtain ⟨h1, h2, h3, h4⟩ := H.pl y hy
    have hlt := H.lt y hy
    have e : ∀ t : Tk, t.kind = 3 → rtok t = ⟨110, ⟨#[]⟩, t.pos, valOf t.text.data.toList⟩ := fun t ht => by unfold rtok; simp [ht]
    rw [e _ h1, e _ h2, h3]
    have v1 : valOf (tkAt ts' (y.i + 3)).text.data.toList < 4 := by show placeD ts' y < 4; rw [h4]; exact hlt.2
    have v2 : valOf (tkAt ts (y.i + 3)).text.data.toList < 4 := hlt.1
    generalize valOf (tkAt ts' (y.i + 3)).text.data.toList = a at v1
    generalize valOf (tkAt ts (y.i + 3)).text.data.toList = b at v2
    unfold ruleF
    have q : ((110 : Nat) == 110 && decide (a < 4)) = ((110 : Nat) == 110 && decide (b < 4)) := by rw [decide_eq_true v1, decide_eq_true v2]
    simp only [q]
    rfl
  · rw [H.oth i (fun y hy e => h ⟨y, hy, e⟩)]

theorem MovT.ans : ∀ {n : Nat} {X : List UInt8} {d : Int} {i : Nat} {r : Int}, Ans ts n X d i r → Ans ts' n X d i r := by
  intro n X d i r h
  induction h with
  | done n X d i hi hX hk => exact Ans.done n X d i (by rw [H.len]; exact hi) hX (by rw [H.kind]; exact hk)
  | fail n x X d i hi hX h80 hr =>
    rw [← H.pos i]
    exact Ans.fail n x X d i (by rw [H.len]; exact hi) hX (by rw [H.kind]; exact h80) (by rw [H.rule]; exact hr)
  | step n x X d i r m u hi hX h80 hr hn ih =>
    refine Ans.step n x X d i r m u (by rw [H.len]; exact hi) hX (by rw [H.kind]; exact h80) (by rw [H.rule]; exact hr) ?_
    have e1 := H.kw i [40] (by decide)
    have e2 := H.kw i [41] (by decide)
    simp only [e1, e2]
    exact ih
end

theorem routes_eqs (ts : List Tk) {L L' : List Dl} (h : eqL L = eqL L') : routesR ts L = routesR ts L' := by
  have e1 : usesR ts L = usesR ts L' := by funext nm q; unfold usesR; rw [h]
  have e2 : ∀ b x q, routeAt ts L b x q = routeAt ts L' b x q := fun b x q => by unfold routeAt; rw [e1]
  have e3 : ∀ b x k, routeTo ts L b x k = routeTo ts L' b x k := by
    intro b x k
    induction k with
    | zero => rfl
    | succ k ih => simp only [routeTo]; rw [ih, e2]
  have e4 : ∀ (l : List Dl) b, routesFrom ts L b l = routesFrom ts L' b l := by
    intro l
    induction l with
    | nil => intro b; rfl
    | cons x r ih => intro b; simp only [routesFrom]; rw [e3, ih]
  unfold routesR
  rw [h, e4]
theorem inL_map_nrm (L : List Dl) : inL (L.map nrm) = (inL L).map nrm := by
  unfold inL
  induction L with
  | nil => rfl
  | cons x r ih =>
    rw [List.map_cons, List.filter_cons, List.filter_cons, ih]
    unfold nrm
    by_cases h : x.kind = 0
    · simp [h]
    · simp [h]
theorem nrm_i (x : Dl) : (nrm x).i = x.i := by unfold nrm; split <;> rfl
theorem read_nrm (ts : List Tk) (L : List Dl) : readR ts (L.map nrm) = readR ts L := by
  have e1 : manyR ts (L.map nrm) = manyR ts L := by
    unfold manyR
    rw [eqL_nrm, inL_map_nrm, List.getElem?_map, Option.map_map]
    congr 2
    funext x
    show posD ts (nrm x) = posD ts x
    unfold posD; rw [nrm_i]
  have e2 : namesR ts (L.map nrm) = namesR ts L := by
    unfold namesR
    congr 2
    funext k
    unfold badNm qNm hereR aheadR someR
    simp only [List.any_map]
    congr 2
    · congr 1
      · congr 1; funext x; simp [nrm_i]
      · congr 1; funext x; simp [nameD, nrm_i]
    · congr 1; congr 1; funext x; simp [nameD, nrm_i]
  have e3 : ∀ i, nameT ts (L.map nrm) i = nameT ts L i := fun i => by unfold nameT; rw [eqL_nrm]
  have e4 : ∀ i, isR ts (L.map nrm) i = isR ts L i := fun i => by unfold isR; rw [e3]
  have eB : ∀ i w, badR ts (L.map nrm) i w = badR ts L i w := fun i w => by unfold badR; rw [e4]
  have e5 : ∀ (t : Ast) (i w : Nat), wrongR ts (L.map nrm) t i w = wrongR ts L t i w := by
    intro t
    induction t with
    | leaf => intro i w; simp only [wrongR]; rw [eB]
    | neg a iha => intro i w; simp only [wrongR]; rw [eB, iha]
    | ite a b c iha ihb ihc => intro i w; simp only [wrongR]; rw [eB, iha, ihb, ihc]
    | dly b ihb => intro i w; simp only [wrongR]; rw [eB, eB, ihb]
    | bin a b iha ihb => intro i w; simp only [wrongR]; rw [eB, iha, ihb]
  have e6 : typesR ts (L.map nrm) = typesR ts L := by unfold typesR; rw [eqL_nrm]; congr 1; funext x; rw [e5]
  have e7 : cycR ts (L.map nrm) = cycR ts L := by
    unfold cycR
    have : relR ts (L.map nrm) = relR ts L := by funext i j; unfold relR; rw [eqL_nrm]
    rw [this, eqL_nrm]
  have e8 : routesR ts (L.map nrm) = routesR ts L := routes_eqs ts (eqL_nrm L)
  have e9 : lpR ts (L.map nrm) = lpR ts L := by unfold lpR; rw [eqL_nrm, e8]
  unfold readR
  rw [e1, e2, e6, e7, e9]

/-- the answer to a text whose places were turned. -/
theorem mov_text {s s' : ByteArray} {L : List Dl} {g : Nat → Nat} (H : MovT (toks s) (toks s') L g) (hA : ∃ n, Ans (toks s) n [80] 0 0 (-1)) (hs' : s'.size ≤ 1500) : textF s' = readR (toks s') L := by
  rcases text_read s' hs' with ⟨k, _, _, n', h'⟩ | ⟨L'', hsp, _, ht, _⟩
  · obtain ⟨n, hn⟩ := hA
    have := (H.ans hn).one h'
    omega
  · rw [ht, ← read_nrm, spell_uniq (toks_F s') L'' L 0 hsp H.spell, read_nrm]

end Go.Proofs.Ytghomdecppfonaa

/- Plain mathematics: the tokens of a text in which places were turned. -/
namespace Go.Proofs.Ytghomdecppfonaa

/-- a byte, its digit forgotten. -/
def msk (c : UInt8) : UInt8 := if cls c.toNat = 2 then 48 else c
def mskT (t : Tk) : Tk := ⟨t.kind, t.pos, ⟨(t.l.map msk).toArray⟩⟩
theorem msk_cls (c : UInt8) : cls (msk c).toNat = cls c.toNat := by
  unfold msk
  split
  · rename_i h; rw [h]; decide
  · rfl
theorem msk_W (cl : Nat) (c : UInt8) : W cl (msk c) = W cl c := by unfold W; rw [msk_cls]
theorem take_msk (cl : Nat) : ∀ r : List UInt8, (r.map msk).takeWhile (W cl) = (r.takeWhile (W cl)).map msk ∧ (r.map msk).dropWhile (W cl) = (r.dropWhile (W cl)).map msk := by
  intro r
  induction r with
  | nil => exact ⟨rfl, rfl⟩
  | cons c r ih =>
    simp only [List.map_cons, List.takeWhile_cons, List.dropWhile_cons, msk_W]
    cases W cl c with
    | true => simp [ih.1, ih.2]
    | false => simp
theorem msk_id {l : List UInt8} (h : ∀ c ∈ l, cls c.toNat ≠ 2) : l.map msk = l := by
  induction l with
  | nil => rfl
  | cons c r ih =>
    rw [List.map_cons, ih (fun x hx => h x (List.mem_cons_of_mem _ hx))]
    unfold msk
    rw [if_neg (h c (by simp))]
theorem W_of {cl : Nat} {c : UInt8} (h : W cl c = true) : cls c.toNat = cl := by unfold W at h; simpa using h
theorem tokW_msk (k : Nat) (w : List UInt8) (cl : Nat) (h : ∀ c ∈ w, cls c.toNat = cl) : tokW k (w.map msk) cl = mskT (tokW k w cl) := by
  have hk : kindK (w.map msk) cl = kindK w cl := by
    by_cases h2 : cl = 2
    · subst h2; unfold kindK numK; simp
    · rw [msk_id (fun c hc => by rw [h c hc]; exact h2)]
  unfold mskT
  show (⟨kindK (w.map msk) cl, k, ⟨(w.map msk).toArray⟩⟩ : Tk) = ⟨kindK w cl, k, ⟨((tokW k w cl).l.map msk).toArray⟩⟩
  rw [hk, tokW_l]

theorem tk_msk : ∀ n k (l : List UInt8), l.length = n → tk k (l.map msk) = (tk k l).map mskT := by
  intro n
  induction n using Nat.strongRecOn with
  | _ n ih =>
    intro k l hn
    cases l with
    | nil => rfl
    | cons c r =>
      simp only [List.length_cons] at hn
      rw [List.map_cons]
      by_cases h0 : cls c.toNat = 0
      · rw [tk_blank h0, tk_blank (by rw [msk_cls]; exact h0)]
        exact ih r.length (by omega) (k + 1) r rfl
      · by_cases h12 : cls c.toNat = 1 ∨ cls c.toNat = 2
        · rw [tk_word h12, tk_word (by rw [msk_cls]; exact h12), msk_cls, (take_msk _ r).1, (take_msk _ r).2, List.length_map, List.map_cons]
          have hl := drop_le (W (cls c.toNat)) r
          rw [ih _ (by omega) _ (r.dropWhile (W (cls c.toNat))) rfl]
          congr 1
          exact tokW_msk k (c :: r.takeWhile (W (cls c.toNat))) _ (fun x hx => by
            rcases List.mem_cons.1 hx with rfl | hx
            · rfl
            · exact W_of (tw_all _ r x hx))
        · rw [tk_one (c := msk c) (by rw [msk_cls]; omega), tk_one (c := c) (by omega), msk_cls, List.map_cons, ih r.length (by omega) (k + 1) r rfl]
          congr 1
          exact tokW_msk k [c] _ (fun x hx => by rw [List.mem_singleton.1 hx])

theorem tk_apart : ∀ n k (l : List UInt8), l.length = n → (tk k l).Pairwise (fun a b => a.pos + a.l.length ≤ b.pos) := by
  intro n
  induction n using Nat.strongRecOn with
  | _ n ih =>
    intro k l hn
    cases l with
    | nil => rw [tk_nil]; exact List.Pairwise.nil
    | cons c r =>
      simp only [List.length_cons] at hn
      by_cases h0 : cls c.toNat = 0
      · rw [tk_blank h0]; exact ih r.length (by omega) (k + 1) r rfl
      · by_cases h12 : cls c.toNat = 1 ∨ cls c.toNat = 2
        · rw [tk_word h12]
          have hl := drop_le (W (cls c.toNat)) r
          refine List.Pairwise.cons (fun t ht => ?_) (ih _ (by omega) _ _ rfl)
          have := (tk_sub _ _ _ rfl t ht).1
          rw [tokW_l]
          show k + (c :: r.takeWhile (W (cls c.toNat))).length ≤ t.pos
          simp only [List.length_cons]
          omega
        · rw [tk_one (by omega)]
          refine List.Pairwise.cons (fun t ht => ?_) (ih r.length (by omega) (k + 1) r rfl)
          have := (tk_sub _ _ _ rfl t ht).1
          rw [tokW_l]
          show k + 1 ≤ t.pos
          exact this

theorem tok_in {s : ByteArray} {i : Nat} (h : (tkAt (toks s) i).kind ≠ 0) : i < (tk 0 s.data.toList).length := by
  rcases Nat.lt_or_ge i (tk 0 s.data.toList).length with hi | hi
  · exact hi
  · exfalso
    rw [toks_list] at h
    by_cases e : i = (tk 0 s.data.toList).length
    · rw [e, tkAt_mid] at h; exact h rfl
    · unfold tkAt at h
      rw [List.getD_eq_getElem?_getD, List.getElem?_eq_none (by simp; omega)] at h
      exact h rfl
theorem toks_apart {s : ByteArray} {i j : Nat} (hij : i < j) (h : (tkAt (toks s) j).kind ≠ 0) : (tkAt (toks s) i).pos + (tkAt (toks s) i).l.length ≤ (tkAt (toks s) j).pos := by
  have hj := tok_in h
  have hp := tk_apart _ 0 s.data.toList rfl
  rw [List.pairwise_iff_getElem] at hp
  have e : ∀ m, (hm : m < (tk 0 s.data.toList).length) → tkAt (toks s) m = (tk 0 s.data.toList)[m] := fun m hm => by
    rw [toks_list, tkAt_left hm]
    unfold tkAt
    rw [List.getD_eq_getElem?_getD, List.getElem?_eq_getElem hm]; rfl
  rw [e i (by omega), e j hj]
  exact hp i j (by omega) hj hij

/-- a text with bytes put in at some places. -/
def movS (s : ByteArray) (ms : List Nat) (g : Nat → Nat) : ByteArray := ⟨(s.data.toList.mapIdx fun j c => if j ∈ ms then UInt8.ofNat (48 + g (c.toNat - 48)) else c).toArray⟩
theorem movS_size (s : ByteArray) (ms : List Nat) (g : Nat → Nat) : (movS s ms g).size = s.size := by
  show (movS s ms g).data.size = s.data.size
  simp [movS]
theorem movS_byt (s : ByteArray) (ms : List Nat) (g : Nat → Nat) (j : Nat) (hj : j < s.size) : byt (movS s ms g) j = if j ∈ ms then (UInt8.ofNat (48 + g (byt s j - 48))).toNat else byt s j := by
  have hl : j < s.data.toList.length := by have : s.data.toList.length = s.size := Array.length_toList; omega
  unfold byt movS
  simp only [List.getD_eq_getElem?_getD, List.getElem?_mapIdx, List.getElem?_eq_getElem hl, Option.map_some, Option.getD_some]
  split <;> rfl
theorem mov_msk {s : ByteArray} {ms : List Nat} {g : Nat → Nat} (hm : ∀ m ∈ ms, 48 ≤ byt s m ∧ byt s m ≤ 57) (hg : ∀ m ∈ ms, g (byt s m - 48) < 4) : (movS s ms g).data.toList.map msk = s.data.toList.map msk := by
  apply List.ext_getElem?
  intro j
  simp only [movS, List.getElem?_map, List.getElem?_mapIdx]
  cases h : s.data.toList[j]? with
  | none => rfl
  | some c =>
    simp only [Option.map_some]
    by_cases hj : j ∈ ms
    · rw [if_pos hj]
      have e : byt s j = c.toNat := by unfold byt; rw [List.getD_eq_getElem?_getD, h]; rfl
      have h1 := hm j hj
      have h2 := hg j hj
      rw [e] at h1 h2
      have d : ∀ n, 48 ≤ n → n ≤ 57 → cls n = 2 := fun n a b => by
        have : n = 48 ∨ n = 49 ∨ n = 50 ∨ n = 51 ∨ n = 52 ∨ n = 53 ∨ n = 54 ∨ n = 55 ∨ n = 56 ∨ n = 57 := by omega
        rcases this with rfl | rfl | rfl | rfl | rfl | rfl | rfl | rfl | rfl | rfl <;> decide
      unfold msk
      rw [if_pos (d _ h1.1 h1.2), if_pos]
      have e2 : (UInt8.ofNat (48 + g (c.toNat - 48))).toNat = 48 + g (c.toNat - 48) := by
        rw [UInt8.toNat_ofNat']
        exact Nat.mod_eq_of_lt (by omega)
      rw [e2]
      exact d _ (by omega) (by omega)
    · rw [if_neg hj]

theorem mskT_eq {t t' : Tk} (h : mskT t = mskT t') : t.kind = t'.kind ∧ t.pos = t'.pos ∧ t.l.map msk = t'.l.map msk := by
  unfold mskT at h
  simp only [Tk.mk.injEq, ByteArray.mk.injEq] at h
  obtain ⟨h1, h2, h3⟩ := h
  exact ⟨h1, h2, by simpa using h3⟩
theorem tk_ext {t t' : Tk} (h1 : t.kind = t'.kind) (h2 : t.pos = t'.pos) (h3 : t.l = t'.l) : t = t' := by
  obtain ⟨a, b, ⟨⟨c⟩⟩⟩ := t
  obtain ⟨a', b', ⟨⟨c'⟩⟩⟩ := t'
  simp only [Tk.l] at h3
  simp only at h1 h2
  subst h1 h2
  have : c = c' := h3
  subst this
  rfl

theorem mov_shape {s s' : ByteArray} (h : s'.data.toList.map msk = s.data.toList.map msk) (hs : s'.size = s.size) : (toks s').length = (toks s).length ∧ ∀ i, mskT (tkAt (toks s') i) = mskT (tkAt (toks s) i) := by
  have e : (tk 0 s'.data.toList).map mskT = (tk 0 s.data.toList).map mskT := by rw [← tk_msk _ 0 _ rfl, ← tk_msk _ 0 _ rfl, h]
  have e2 : (toks s').map mskT = (toks s).map mskT := by rw [toks_list, toks_list, List.map_append, List.map_append, e, hs]
  have hl : (toks s').length = (toks s).length := by have := congrArg List.length e2; simpa using this
  refine ⟨hl, fun i => ?_⟩
  have e3 := congrArg (fun l => l[i]?) e2
  simp only [List.getElem?_map] at e3
  unfold tkAt
  rw [List.getD_eq_getElem?_getD, List.getD_eq_getElem?_getD]
  by_cases hi : i < (toks s).length
  · rw [List.getElem?_eq_getElem hi, List.getElem?_eq_getElem (by omega)] at e3
    rw [List.getElem?_eq_getElem hi, List.getElem?_eq_getElem (by omega)]
    simpa using e3
  · rw [List.getElem?_eq_none (by omega), List.getElem?_eq_none (by omega)]

end Go.Proofs.Ytghomdecppfonaa

/- Plain mathematics: a text in which places were turned differs in the places alone. -/
namespace Go.Proofs.Ytghomdecppfonaa

theorem byt_len {s : ByteArray} {i : Nat} (h : (tkAt (toks s) i).kind ≠ 0) {c : Nat} (hc : c < (tkAt (toks s) i).l.length) : (tkAt (toks s) i).pos + c < s.size := by
  have hi := tok_in h
  have hm : tkAt (toks s) i ∈ tk 0 s.data.toList := by rw [toks_list, tkAt_left hi]; exact tkAt_mem hi
  generalize tkAt (toks s) i = t at hm hc ⊢
  have := (tk_sub _ 0 s.data.toList rfl t hm).2 c hc
  rw [Nat.sub_zero] at this
  have hl : s.data.toList.length = s.size := Array.length_toList
  have := (List.getElem?_eq_some_iff.1 this).1
  omega

theorem end_nil (s : ByteArray) (j : Nat) (h : (tkAt (toks s) j).kind = 0) : (tkAt (toks s) j).l = [] := by
  by_cases hj : j < (tk 0 s.data.toList).length
  · rw [toks_list, tkAt_left hj] at h
    have hf := tk_fine _ _ _ rfl _ (tkAt_mem hj)
    rcases hf with ⟨cl, hcl, _, _, hk⟩ | ⟨c, _, _, hk⟩
    · rw [hk] at h
      unfold kindK wordK numK at h
      rcases hcl with rfl | rfl
      · rw [if_pos rfl] at h; split at h <;> (try split at h) <;> cases h
      · rw [if_neg (by decide), if_pos rfl] at h; split at h <;> cases h
    · rw [hk] at h
      unfold kindK wordK numK at h
      repeat (first | (split at h) | cases h)
  · rw [toks_list]
    by_cases e : j = (tk 0 s.data.toList).length
    · rw [e, tkAt_mid]; rfl
    · unfold tkAt
      rw [List.getD_eq_getElem?_getD, List.getElem?_eq_none (by simp; omega)]; rfl

theorem mov_tokens {s : ByteArray} {L : List Dl} (h : Spell (toks s) L 0) {g : Nat → Nat} (hg : ∀ p, p < 4 → g p < 4) : MovT (toks s) (toks (movS s (marksF s) g)) L g := by
  have hmt := marks_text h
  have hpl : ∀ x ∈ eqL L, (tkAt (toks s) (x.i + 3)).kind = 3 ∧ placeD (toks s) x < 4 := fun x hx => by
    have hk : x.kind ≠ 0 := by simpa using (List.mem_filter.1 hx).2
    rcases (spell_mem L 0 h x (eq_mem hx)).2.2 with ⟨h0, _⟩ | ⟨_, _, _, h4, _⟩
    · exact absurd h0 hk
    · exact h4
  have hdig := fun x hx => fine_dig (toks_fine s (x.i + 3) (by rw [(hpl x hx).1]; decide)) (hpl x hx).1
  have hmem : ∀ m ∈ marksF s, ∃ x ∈ eqL L, m = lastD (tkAt (toks s) (x.i + 3)) := fun m hm => by
    rw [hmt] at hm
    obtain ⟨x, hx, e⟩ := List.mem_map.1 hm
    exact ⟨x, hx, e.symm⟩
  have hgm : ∀ m ∈ marksF s, g (byt s m - 48) < 4 := fun m hm => by
    obtain ⟨x, hx, rfl⟩ := hmem m hm
    rw [place_last (hpl x hx).1 (hpl x hx).2]
    exact hg _ (hpl x hx).2
  have hmi := marks_in s
  obtain ⟨hlen, hsh⟩ := mov_shape (s := s) (s' := movS s (marksF s) g) (mov_msk (fun m hm => (hmi m hm).2) hgm) (movS_size s _ g)
  have hsz := movS_size s (marksF s) g
  -- a token that has no mark in it
  have far : ∀ j, (∀ c, c < (tkAt (toks s) j).l.length → (tkAt (toks s) j).pos + c ∉ marksF s) → tkAt (toks (movS s (marksF s) g)) j = tkAt (toks s) j := fun j hj => by
    obtain ⟨e1, e2, e3⟩ := mskT_eq (hsh j)
    have hl : (tkAt (toks (movS s (marksF s) g)) j).l.length = (tkAt (toks s) j).l.length := by have := congrArg List.length e3; simpa using this
    refine tk_ext e1 e2 ?_
    by_cases h0 : (tkAt (toks s) j).kind = 0
    · have n1 : (tkAt (toks s) j).l = [] := end_nil s j h0
      rw [n1] at hl ⊢
      exact List.eq_nil_of_length_eq_zero hl
    · apply List.ext_getElem hl
      intro c hc1 hc2
      have b1 := toks_sub s j h0 c hc2
      have b2 := toks_sub (movS s (marksF s) g) j (by rw [e1]; exact h0) c hc1
      rw [e2, movS_byt s _ g _ (byt_len h0 hc2), if_neg (hj c hc2), b1] at b2
      exact (UInt8.toNat_inj.1 b2).symm
  have notMark : ∀ j, (∀ x ∈ eqL L, j ≠ x.i + 3) → (tkAt (toks s) j).kind ≠ 0 → ∀ c, c < (tkAt (toks s) j).l.length → (tkAt (toks s) j).pos + c ∉ marksF s := fun j hj h0 c hc hm => by
    obtain ⟨x, hx, e⟩ := hmem _ hm
    have hne := hj x hx
    have hxk : (tkAt (toks s) (x.i + 3)).kind ≠ 0 := by rw [(hpl x hx).1]; decide
    have hpos : 0 < (tkAt (toks s) (x.i + 3)).l.length := List.length_pos_iff.2 (hdig x hx).2.2
    unfold lastD at e
    rcases Nat.lt_or_gt_of_ne hne with hlt | hgt
    · have := toks_apart hlt hxk; omega
    · have := toks_apart hgt h0; omega
  refine { F := toks_F s, F' := toks_F _, len := hlen, oth := fun j hj => ?_, pl := fun x hx => ?_, lt := fun x hx => ⟨(hpl x hx).2, hg _ (hpl x hx).2⟩, sp := h }
  · by_cases h0 : (tkAt (toks s) j).kind = 0
    · exact far j (fun c hc => by rw [end_nil s j h0] at hc; simp at hc)
    · exact far j (notMark j hj h0)
  · obtain ⟨e1, e2, e3⟩ := mskT_eq (hsh (x.i + 3))
    obtain ⟨k3, hp4⟩ := hpl x hx
    refine ⟨k3, e1.trans k3, e2, ?_⟩
    have hl : (tkAt (toks (movS s (marksF s) g)) (x.i + 3)).l.length = (tkAt (toks s) (x.i + 3)).l.length := by have := congrArg List.length e3; simpa using this
    obtain ⟨_, hd, hne⟩ := hdig x hx
    obtain ⟨r, d, he, hv, hr0⟩ := val_last _ hd hne hp4
    have hlen2 : (tkAt (toks s) (x.i + 3)).l.length = r.length + 1 := by rw [he]; simp
    have h0 : (tkAt (toks s) (x.i + 3)).kind ≠ 0 := by rw [k3]; decide
    have h0' : (tkAt (toks (movS s (marksF s) g)) (x.i + 3)).kind ≠ 0 := by rw [e1]; exact h0
    -- the digits ahead of the last
    have ahead : ∀ c, c < r.length → (tkAt (toks s) (x.i + 3)).pos + c ∉ marksF s := fun c hc hm => by
      obtain ⟨y, hy, e⟩ := hmem _ hm
      have hpos : 0 < (tkAt (toks s) (y.i + 3)).l.length := List.length_pos_iff.2 (hdig y hy).2.2
      have hyk : (tkAt (toks s) (y.i + 3)).kind ≠ 0 := by rw [(hpl y hy).1]; decide
      unfold lastD at e
      rcases Nat.lt_trichotomy (x.i + 3) (y.i + 3) with hlt | heq | hgt
      · have := toks_apart hlt hyk; omega
      · rw [← heq, hlen2] at e; omega
      · have := toks_apart hgt h0; omega
    have lastm : (tkAt (toks s) (x.i + 3)).pos + r.length ∈ marksF s := by
      rw [hmt]
      refine List.mem_map.2 ⟨x, hx, ?_⟩
      unfold lastD
      rw [hlen2]; omega
    have hl' : (tkAt (toks (movS s (marksF s) g)) (x.i + 3)).l = r ++ [UInt8.ofNat (48 + g (placeD (toks s) x))] := by
      apply List.ext_getElem (by rw [hl, hlen2]; simp)
      intro c hc1 hc2
      have hc : c < (tkAt (toks s) (x.i + 3)).l.length := by rw [← hl]; exact hc1
      have b1 := toks_sub s (x.i + 3) h0 c hc
      have b2 := toks_sub (movS s (marksF s) g) (x.i + 3) h0' c hc1
      rw [e2, movS_byt s _ g _ (byt_len h0 hc)] at b2
      by_cases hcr : c < r.length
      · rw [if_neg (ahead c hcr), b1] at b2
        rw [List.getElem_append_left hcr]
        have e4 : (tkAt (toks s) (x.i + 3)).l[c] = r[c] := by simp [he, List.getElem_append_left hcr]
        rw [e4] at b2
        exact (UInt8.toNat_inj.1 b2).symm
      · have ec : c = r.length := by omega
        subst ec
        rw [if_pos lastm] at b2
        rw [List.getElem_append_right (Nat.le_refl _)]
        simp only [Nat.sub_self, List.getElem_cons_zero]
        have e5 : byt s ((tkAt (toks s) (x.i + 3)).pos + r.length) - 48 = placeD (toks s) x := by
          have := place_last (s := s) (k := x.i + 3) k3 hp4
          unfold lastD at this
          rw [hlen2, show (tkAt (toks s) (x.i + 3)).pos + (r.length + 1) - 1 = (tkAt (toks s) (x.i + 3)).pos + r.length by omega] at this
          exact this
        rw [e5] at b2
        exact (UInt8.toNat_inj.1 b2).symm
    show valOf (tkAt (toks (movS s (marksF s) g)) (x.i + 3)).l = _
    rw [hl', valOf_snoc, hr0]
    have e6 : (UInt8.ofNat (48 + g (placeD (toks s) x))).toNat = 48 + g (placeD (toks s) x) := by
      rw [UInt8.toNat_ofNat']
      exact Nat.mod_eq_of_lt (by have := hg _ hp4; omega)
    rw [e6]
    omega

end Go.Proofs.Ytghomdecppfonaa
