import Derived.Test.YtmndgoapkmhglaaDoorM02Dig
import Derived.Test.YtmndgoapkmhglaaDoorM14AstM
/- Plain mathematics: what the program answers of a text is the document's own answer. -/
namespace Go.Proofs.YtmndgoapkmhglaaDoor

theorem tk_pos : ∀ n k (l : List UInt8), l.length = n → (∀ t ∈ tk k l, k ≤ t.pos ∧ t.pos < k + l.length) ∧ (tk k l).Pairwise (fun a b => a.pos < b.pos) := by
  intro n
  induction n using Nat.strongRecOn with
  | _ n ih =>
    intro k l hn
    cases l with
    | nil => rw [tk_nil]; exact ⟨fun t ht => by simp at ht, List.Pairwise.nil⟩
    | cons c r =>
      simp only [List.length_cons] at hn
      by_cases h0 : cls c.toNat = 0
      · rw [tk_blank h0]
        obtain ⟨h1, h2⟩ := ih r.length (by omega) (k + 1) r rfl
        exact ⟨fun t ht => by have := h1 t ht; simp only [List.length_cons]; omega, h2⟩
      · by_cases h12 : cls c.toNat = 1 ∨ cls c.toNat = 2
        · rw [tk_word h12]
          have hl := take_drop_len (W (cls c.toNat)) r
          obtain ⟨h1, h2⟩ := ih _ (by omega) (k + 1 + (r.takeWhile (W (cls c.toNat))).length) (r.dropWhile (W (cls c.toNat))) rfl
          refine ⟨fun t ht => ?_, List.Pairwise.cons (fun t ht => ?_) h2⟩
          · simp only [List.length_cons]
            rcases List.mem_cons.1 ht with rfl | ht
            · show k ≤ k ∧ k < _; omega
            · have := h1 t ht; omega
          · have := h1 t ht; show k < t.pos; omega
        · rw [tk_one (by omega)]
          obtain ⟨h1, h2⟩ := ih r.length (by omega) (k + 1) r rfl
          refine ⟨fun t ht => ?_, List.Pairwise.cons (fun t ht => ?_) h2⟩
          · simp only [List.length_cons]
            rcases List.mem_cons.1 ht with rfl | ht
            · show k ≤ k ∧ k < _; omega
            · have := h1 t ht; omega
          · have := h1 t ht; show k < t.pos; omega

theorem toks_pos (s : ByteArray) : PosLt (toks s) := by
  obtain ⟨h1, h2⟩ := tk_pos _ 0 s.data.toList rfl
  have hp : (toks s).Pairwise (fun a b => a.pos < b.pos) := by
    rw [toks_list, List.pairwise_append]
    refine ⟨h2, List.pairwise_singleton _ _, fun a ha b hb => ?_⟩
    rw [List.mem_singleton] at hb
    subst hb
    have := h1 a ha
    show a.pos < s.size
    rw [size_list]; omega
  intro i j hij hj
  have := (List.pairwise_iff_getElem.1 hp) i j (by omega) hj hij
  unfold tkAt
  rw [List.getD_eq_getElem?_getD, List.getD_eq_getElem?_getD, List.getElem?_eq_getElem hj, List.getElem?_eq_getElem (show i < (toks s).length by omega)]
  exact this

theorem toks_end (s : ByteArray) (i : Nat) (h : (tkAt (toks s) i).kind = 0) : (toks s).length ≤ i + 1 := by
  by_cases hi : i < (tk 0 s.data.toList).length
  · exfalso
    rw [toks_list, tkAt_left hi] at h
    exact (tk_kind _ _ _ rfl _ (tkAt_mem hi)).1 h
  · rw [toks_list]; simp; omega

theorem badName_own {all : List Dc} {ns : List Nd} : ∀ (l : List Dc) (i : Nat), badNameF all ns i l = none → ∀ j (hj : j < l.length), findF all (l[j]'hj).name = ((i + j : Nat) : Int) := by
  intro l
  induction l with
  | nil => intro i _ j hj; simp at hj
  | cons d l ih =>
    intro i h j hj
    unfold badNameF at h
    split at h
    · cases h
    · rename_i hd
      have hd' : findF all d.name = (i : Int) := Classical.byContradiction hd
      split at h
      · cases h
      · cases j with
        | zero => exact hd'
        | succ j =>
          have := ih (i + 1) h j (by simpa using hj)
          rw [List.getElem_cons_succ, this]
          congr 1; omega

theorem dx_two {ts : List Tk} {f : Nd → Nd} {ns : List Nd} : ∀ {l : List Dc} {m : List Dl}, All2 (DX ts f ns) l m → l.map (fun d => (d.name, d.kind)) = m.map fun x => (nameD ts x, x.kind) := by
  intro l
  induction l with
  | nil => intro m h; cases m with
    | nil => rfl
    | cons x m => exact h.elim
  | cons d l ih => intro m h; cases m with
    | nil => exact h.elim
    | cons x m => rw [List.map_cons, List.map_cons, h.1.name, h.1.kind, ih h.2]

theorem declsD_num (ts : List Tk) : ∀ (L : List Dl) (off a b k : Nat) (d : Dc) (x : Dl), (declsD ts L off a b)[k]? = some d → L[k]? = some x → x.kind ≠ 0 → d.number = b + cntE L k := by
  intro L
  induction L with
  | nil => intro off a b k d x h; simp [declsD] at h
  | cons z r ih =>
    intro off a b k d x h1 h2 hk
    simp only [declsD] at h1
    cases k with
    | zero =>
      rw [List.getElem?_cons_zero] at h2
      cases h2
      rw [if_neg hk, List.getElem?_cons_zero] at h1
      cases h1
      simp [cntE, eqL, dcEq]
    | succ k =>
      rw [List.getElem?_cons_succ] at h2
      by_cases hz : z.kind = 0
      · rw [if_pos hz, List.getElem?_cons_succ] at h1
        rw [ih _ _ _ k d x h1 h2 hk]
        simp [cntE, eqL, hz]
      · rw [if_neg hz, List.getElem?_cons_succ] at h1
        rw [ih _ _ _ k d x h1 h2 hk]
        simp [cntE, eqL, hz]; omega

/-- the document's own answer of tokens that can all stand. -/
def readR (ts : List Tk) (L : List Dl) : Nat × Nat :=
  match manyR ts L with
  | some a => (3, a)
  | none => match namesR ts L with
    | some a => (4, a)
    | none => match typesR ts L with
      | some a => (5, a)
      | none => match cycR ts L with
        | some a => (6, a)
        | none => match lpR ts L with
          | some a => (7, a)
          | none => (0, 0)

theorem meaning_ref {ts : List Tk} (hF : ∀ i, TkF (tkAt ts i)) (hP : PosLt ts) (hE : ∀ i, (tkAt ts i).kind = 0 → ts.length ≤ i + 1) (L : List Dl) (hL : Spell ts L 0) (ht : 0 < ts.length) :
    meaningF (declsD ts L 0 0 0) ((nodesD ts L 0).map (bindF (declsD ts L 0 0 0))) = readR ts L := by
  obtain ⟨ds, hds⟩ : ∃ ds, ds = declsD ts L 0 0 0 := ⟨_, rfl⟩
  obtain ⟨ns, hns⟩ : ∃ ns, ns = (nodesD ts L 0).map (bindF ds) := ⟨_, rfl⟩
  rw [← hds, ← hns]
  have hmany : tooManyF ds = manyR ts L := by rw [hds]; exact many_eq hP L 0 0 0 0 hL (by omega) (by omega)
  have hnm : ds.map Dc.name = L.map (nameD ts) := by rw [hds]; exact declsD_names ts L 0 0 0
  have hnames : badNameF ds ns 0 ds = namesR ts L := by
    have := names_eq hF hE L hL ds hnm L [] 0 0 0 0 [] [] rfl hL (by omega) (by rw [List.nil_append]; exact hds) rfl rfl
    rw [List.nil_append, ← hns, ← hds] at this
    exact this
  have hdx : All2 (DX ts (bindF ds) ns) ds L := by
    have := dx_all ts (bindF ds) L 0 0 0 [] rfl
    rw [List.nil_append, ← hns, ← hds] at this
    exact this
  unfold meaningF readR
  rw [hmany, hnames]
  cases manyR ts L with
  | some a => rfl
  | none =>
    simp only
    cases hn : namesR ts L with
    | some a => rfl
    | none =>
      simp only
      rw [hn] at hnames
      have hN : NamesOk ts L ds := ⟨fun j hj => by have := badName_own ds 0 hnames j hj; rw [this, Nat.zero_add], dx_two hdx⟩
      have hsp : ∀ x ∈ L, x.kind ≠ 0 → Sp ts x.t (x.i + 5) ∧ x.i + 5 + x.t.len ≤ ts.length := by
        intro x hx hk
        obtain ⟨_, h2, h3⟩ := spell_mem _ _ hL x hx
        have hlen : x.len = x.t.len + 6 := by unfold Dl.len; rw [if_neg hk]
        refine ⟨?_, by omega⟩
        rcases h3 with ⟨h, _⟩ | ⟨_, _, _, _, _, h, _⟩
        · exact absurd h hk
        · exact h
      have hd : ∀ x ∈ L, x.kind ≠ 0 → ∀ y ∈ nmD ts x.t (x.i + 5) false, 0 ≤ findF ds (tkAt ts y.1).text := by
        intro x hx hk y hy
        obtain ⟨k, hk2, rfl⟩ := List.getElem_of_mem hx
        rcases hdx.getOpt k with ⟨_, h2⟩ | ⟨d, z, h1, h2, h3⟩
        · rw [List.getElem?_eq_getElem hk2] at h2; cases h2
        · rw [List.getElem?_eq_getElem hk2] at h2
          cases h2
          have hnone := badName_none ds 0 hnames d (List.mem_of_getElem? h1)
          obtain ⟨o, ho⟩ := h3.some hk
          have hmem : bindF ds (nmNd ts y) ∈ seg ns d.root d.fin := by
            rw [ho]
            have : bindF ds (nmNd ts y) ∈ (((flat ts (L[k]'hk2).t ((L[k]'hk2).i + 5) 0 o).map (bindF ds)).filter fun n => n.kind == 2) := by
              rw [bind_filter, flat_names hF _ _ _ _ (hsp _ hx hk).1]
              exact List.mem_map.2 ⟨_, List.mem_map.2 ⟨y, hy, rfl⟩, rfl⟩
            exact (List.mem_filter.1 this).1
          have := badNode_none _ hnone _ hmem (by rw [bind_nm]; rfl)
          rw [bind_nm] at this
          exact this
      have htot : (nodesD ts L 0).length = totN L := nodesD_len ts L 0
      have hnl : ns.length = totN L := by rw [hns, List.length_map, htot]
      have htypes : badTypeF ds 0 ns (roots ds (List.replicate ns.length false)) = typesR ts L := by
        have hT : TrOk L 0 (roots ds (List.replicate ns.length false)) := by
          rw [hds]
          refine roots_ok ts L 0 0 0 _ (fun j _ => ?_) (by simp [hnl])
          rw [List.getD_eq_getElem?_getD, List.getElem?_replicate]
          split <;> rfl
        have := types_eq hF hN L 0 0 (roots ds (List.replicate ns.length false)) hL hT (by rw [roots_len]; simp [hnl]) hd
        rw [← hns] at this
        exact this
      rw [htypes]
      cases typesR ts L with
      | some a => rfl
      | none =>
        simp only
        rw [cycle_eq hF hN hsp hd hdx]
        cases cycR ts L with
        | some a => rfl
        | none =>
          simp only
          rw [loop_eq hF hN hsp hd hdx (fun a d x h1 h2 hk => by rw [hds] at h1; have := declsD_num ts L 0 0 0 a d x h1 h2 hk; rw [this, Nat.zero_add])]
          cases lpR ts L <;> rfl

/-- the text's answer, by the document's own reader. -/
theorem text_ref (s : ByteArray) (hs : s.size ≤ 1500) :
    (∃ k, k < (toks s).length ∧ textF s = (2, (tkAt (toks s) k).pos) ∧ ∃ n, Ans (toks s) n [80] 0 0 ((tkAt (toks s) k).pos : Int)) ∨
    (∃ L, Spell (toks s) L 0 ∧ (∃ n, Ans (toks s) n [80] 0 0 (-1)) ∧ textF s = readR (toks s) L) := by
  obtain ⟨hok, hbad⟩ := parseA s hs
  unfold textF
  rw [if_neg (by omega)]
  cases hp : parseF s with
  | error k =>
    obtain ⟨h1, h2⟩ := hbad k hp
    exact .inl ⟨k, h1, rfl, h2⟩
  | ok p =>
    obtain ⟨L, h1, h2, h3, h4⟩ := hok p hp
    refine .inr ⟨L, h1, h4, ?_⟩
    show meaningF p.decls (boundN p) = _
    unfold boundN
    rw [h2, h3]
    exact meaning_ref (toks_F s) (toks_pos s) (toks_end s) L h1 (toks_ok s hs).pos

end Go.Proofs.YtmndgoapkmhglaaDoor

namespace Go.Proofs.YtmndgoapkmhglaaDoor
open Go.RowKit

def bCells (l : List UInt8) : List Value := l.map fun b => Value.int .u8 b.toNat
theorem bCells_app (l m : List UInt8) : bCells (l ++ m) = bCells l ++ bCells m := by simp [bCells]
theorem size_mk (l : List UInt8) : (ByteArray.mk l.toArray).size = l.length := by simp [ByteArray.size]

theorem Tryd.infoU8 : (Tryd.prog.info? 5).map (fun i => (i.zero, i.size, i.bytes)) = some (some (.int .u8 0), 1, 1) := by kernel_rfl

end Go.Proofs.YtmndgoapkmhglaaDoor
