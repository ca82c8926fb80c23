import Derived.Test.YtecegaflhdgfaaaM07AstH
/- Plain mathematics: what is wanted of an expression: both readers find the same. -/
namespace Go.Proofs.Ytecegaflhdgfaaa

def nameT (ts : List Tk) (L : List Dl) (k : Nat) : Bool := (eqL L).any fun x => (nameD ts x).data.toList == lAt ts k && x.kind == 2
def opR (l : List UInt8) : Nat := if l = kFby then 63 else if l = [43] ∨ l = [45] ∨ l = [42] ∨ l = [47] then 110 else 116
/-- what the expression at a token is: 110 a number, 116 a truth, 63 whatever is wanted. -/
def isR (ts : List Tk) (L : List Dl) (i : Nat) : Nat :=
  if (tkAt ts i).kind = 1 then (if nameT ts L i then 116 else 110)
  else if (tkAt ts i).kind = 3 then 110
  else if lAt ts i ≠ [40] then 116
  else if lAt ts (i + 1) = kNot then 116 else if lAt ts (i + 1) = kIf then 63
  else opR (lAt ts (behindF ts (i + 1)))
def bothR (l : List UInt8) : Nat := if l = [38] ∨ l = [124] then 116 else 110
def badR (ts : List Tk) (L : List Dl) (i w : Nat) : Bool := isR ts L i != 63 && isR ts L i != w
def wrongR (ts : List Tk) (L : List Dl) : Ast → Nat → Nat → Option Nat
  | .leaf, i, w => if badR ts L i w then some (tkAt ts i).pos else none
  | .neg a, i, w => if badR ts L i w then some (tkAt ts i).pos else wrongR ts L a (i + 2) 116
  | .ite a b c, i, w => if badR ts L i w then some (tkAt ts i).pos else (wrongR ts L a (i + 2) 116).or ((wrongR ts L b (i + 2 + a.len) w).or (wrongR ts L c (i + 2 + a.len + b.len) w))
  | .dly b, i, w => if badR ts L i w then some (tkAt ts i).pos else (if badR ts L (i + 1) w then some (tkAt ts (i + 1)).pos else none).or (wrongR ts L b (i + 3) w)
  | .bin a b, i, w => if badR ts L i w then some (tkAt ts i).pos else (wrongR ts L a (i + 1) (bothR (lAt ts (i + 1 + a.len)))).or (wrongR ts L b (i + 2 + a.len) (bothR (lAt ts (i + 1 + a.len))))
def wB (b : Bool) : Nat := if b then 116 else 110
def typesR (ts : List Tk) (L : List Dl) : Option Nat := (eqL L).findSome? fun x => wrongR ts L x.t (x.i + 5) (wB (x.kind == 2))

theorem findF_name (l : List Dc) {a b : ByteArray} (h : a.data.toList = b.data.toList) : findF l a = findF l b := by unfold findF; rw [h]

/-- the names of a program that are right. -/
structure NamesOk (ts : List Tk) (L : List Dl) (ds : List Dc) : Prop where
  own : ∀ j (hj : j < ds.length), findF ds (ds[j]'hj).name = (j : Int)
  two : ds.map (fun d => (d.name, d.kind)) = L.map fun x => (nameD ts x, x.kind)

theorem any_two {ts : List Tk} {ds : List Dc} {L : List Dl} (h : ds.map (fun d => (d.name, d.kind)) = L.map fun x => (nameD ts x, x.kind)) (p : ByteArray × Nat → Bool) : (ds.any fun d => p (d.name, d.kind)) = L.any fun x => p (nameD ts x, x.kind) := by
  have e1 : (ds.any fun d => p (d.name, d.kind)) = (ds.map (fun d => (d.name, d.kind))).any p := by rw [List.any_map]; rfl
  have e2 : (L.any fun x => p (nameD ts x, x.kind)) = (L.map fun x => (nameD ts x, x.kind)).any p := by rw [List.any_map]; rfl
  rw [e1, e2, h]

theorem NamesOk.truth {ts : List Tk} {L : List Dl} {ds : List Dc} (h : NamesOk ts L ds) (k : Nat) (h0 : 0 ≤ findF ds (tkAt ts k).text) : (kindAt ds (findF ds (tkAt ts k).text) == 2) = nameT ts L k := by
  have e1 : nameT ts L k = ds.any fun d => d.name.data.toList == lAt ts k && d.kind == 2 := by
    have := any_two h.two (fun q => q.1.data.toList == lAt ts k && q.2 == 2)
    rw [this]
    unfold nameT eqL
    rw [List.any_filter]
    apply any_congr_mem
    intro x _
    cases hx : (x.kind == 2) with
    | false => simp
    | true =>
      have : x.kind = 2 := by simpa using hx
      simp [this]
  rw [e1, Bool.eq_iff_iff]
  constructor
  · intro hk
    unfold findF at h0 hk
    split at h0
    · rename_i i hi
      rw [hi] at hk
      rw [List.findIdx?_eq_some_iff_getElem] at hi
      obtain ⟨g1, g2, _⟩ := hi
      rw [List.any_eq_true]
      refine ⟨ds[i]'g1, List.getElem_mem g1, ?_⟩
      have hk' : (ds[i]'g1).kind = 2 := by
        unfold kindAt at hk
        simp only [Int.toNat_natCast] at hk
        rw [List.getD_eq_getElem?_getD, List.getElem?_eq_getElem g1] at hk
        simpa using hk
      rw [hk']
      simpa [Tk.l] using g2
    · omega
  · intro ha
    rw [List.any_eq_true] at ha
    obtain ⟨d, hd, h2⟩ := ha
    obtain ⟨j, hj, rfl⟩ := List.getElem_of_mem hd
    rw [Bool.and_eq_true, beq_iff_eq, beq_iff_eq] at h2
    have := h.own j hj
    rw [findF_name ds (b := (tkAt ts k).text) h2.1] at this
    rw [this]
    unfold kindAt
    rw [Int.toNat_natCast, List.getD_eq_getElem?_getD, List.getElem?_eq_getElem hj]
    simpa using h2.2

theorem nm_true {ts : List Tk} : ∀ (t : Ast) (i : Nat), ∀ x ∈ nmD ts t i true, x.2 = true := by
  intro t
  induction t with
  | leaf =>
    intro i x hx
    simp only [nmD] at hx
    split at hx
    · simp at hx; subst hx; rfl
    · simp at hx
  | neg a iha => intro i x hx; exact iha _ x hx
  | ite a b c iha ihb ihc =>
    intro i x hx
    simp only [nmD, List.mem_append] at hx
    rcases hx with hx | hx | hx
    · exact iha _ x hx
    · exact ihb _ x hx
    · exact ihc _ x hx
  | dly b ihb => intro i x hx; exact ihb _ x hx
  | bin a b iha ihb =>
    intro i x hx
    simp only [nmD, List.mem_append] at hx
    rcases hx with hx | hx
    · exact iha _ x hx
    · exact ihb _ x hx

theorem sp_first {ts : List Tk} (hF : ∀ i, TkF (tkAt ts i)) {t : Ast} {i : Nat} (h : Sp ts t i) : lAt ts i ≠ kNot ∧ lAt ts i ≠ kIf := by
  cases t with
  | leaf => exact ⟨(leaf_ne2 hF h.1).1, (leaf_ne2 hF h.1).2.1⟩
  | neg a => rw [h.1]; decide
  | ite a b c => rw [h.1]; decide
  | dly b => rw [h.1]; decide
  | bin a b => rw [h.1]; decide

section
variable {ts : List Tk} (hF : ∀ i, TkF (tkAt ts i)) {L : List Dl}
include hF

theorem isR_open {i : Nat} (h : lAt ts i = [40]) : isR ts L i = if lAt ts (i + 1) = kNot then 116 else if lAt ts (i + 1) = kIf then 63 else opR (lAt ts (behindF ts (i + 1))) := by
  unfold isR
  have h' : kwL.contains (tkAt ts i).l = true := by show kwL.contains (lAt ts i) = true; rw [h]; decide
  rw [if_neg ((hF i).not1 h'), if_neg ((hF i).not3 h'), if_neg (by simp [h])]

omit hF in
theorem bad_any {i w : Nat} (h : isR ts L i = 63) : badR ts L i w = false := by unfold badR; rw [h]; rfl
omit hF in
theorem bad_truth {i : Nat} {b : Bool} (x : Bool) (h : isR ts L i = wB x) : badR ts L i (wB b) = !(b == x) := by
  unfold badR; rw [h]; cases b <;> cases x <;> rfl

/-- the first node of an expression fits, if it is what is wanted. -/
theorem fits_first {ds : List Dc} (hN : NamesOk ts L ds) {i : Nat} (hlf : leafT (tkAt ts i) = true) (h40 : lAt ts i ≠ [40]) (hdecl : (tkAt ts i).kind = 1 → 0 ≤ findF ds (tkAt ts i).text) (dl : Nat) (b : Bool) :
    fitsF ds (bindF ds (mkN ts i dl (leafN0 (tkAt ts i)))) b = !badR ts L i (wB b) := by
  by_cases h1 : (tkAt ts i).kind = 1
  · have hi : isR ts L i = wB (nameT ts L i) := by unfold isR; rw [if_pos h1]; rfl
    rw [bad_truth _ hi, leafN0_name (hF i) h1, Bool.not_not, ← hN.truth i (hdecl h1)]
    unfold bindF
    rw [if_pos (by rfl)]
    unfold fitsF
    rw [if_neg (by simp [mkN]), if_neg (by simp [mkN]), if_pos (by simp [mkN])]
    rfl
  · have hb : bindF ds (mkN ts i dl (leafN0 (tkAt ts i))) = mkN ts i dl (leafN0 (tkAt ts i)) := by
      unfold bindF; rw [if_neg (show ¬ (mkN ts i dl (leafN0 (tkAt ts i))).kind = 2 from leafN0_no hlf h1)]
    rw [hb]
    by_cases h3 : (tkAt ts i).kind = 3
    · have hi : isR ts L i = wB false := by unfold isR; rw [if_neg h1, if_pos h3]; rfl
      rw [bad_truth _ hi, Bool.not_not]
      have hl : leafN0 (tkAt ts i) = { ndZero with kind := 0, value := valOf (tkAt ts i).l } := by
        have hn : ∀ l, kwL.contains l = true → (tkAt ts i).l ≠ l := fun l hl e => by have := (hF i).k3 h3; rw [e, hl] at this; cases this
        unfold leafN0; rw [if_neg (hn _ (by decide)), if_neg (hn _ (by decide)), if_pos h3]
      rw [hl]; cases b <;> rfl
    · have hi : isR ts L i = wB true := by unfold isR; rw [if_neg h1, if_neg h3, if_pos h40]; rfl
      rw [bad_truth _ hi, Bool.not_not]
      have hl : (mkN ts i dl (leafN0 (tkAt ts i))).kind = 1 := by
        unfold leafT litT at hlf
        simp only [Bool.or_eq_true, beq_iff_eq, h1, h3, or_false, false_or] at hlf
        rw [mkN_kind]
        unfold leafN0
        rcases hlf with h | h
        · rw [if_pos h]
        · by_cases e : (tkAt ts i).l = kTrue
          · rw [if_pos e]
          · rw [if_neg e, if_pos h]
      unfold fitsF
      rw [if_neg (by rw [hl]; decide), if_pos (.inl hl)]; cases b <;> rfl

omit hF in
theorem badType_cons (ds : List Dc) (i : Nat) (n : Nd) (r : List Nd) (tr : List Bool) : badTypeF ds i (n :: r) tr = if fitsF ds n (tr.getD i false) = true then badTypeF ds (i + 1) r (tell n (tr.getD i false) tr) else some n.pos := rfl

omit hF in
theorem getD_set_ne {l : List Bool} {i j : Nat} {v : Bool} (h : i ≠ j) : (l.set i v).getD j false = l.getD j false := by
  rw [List.getD_eq_getElem?_getD, List.getD_eq_getElem?_getD, List.getElem?_set_ne h]
omit hF in
theorem getD_set_eq {l : List Bool} {i : Nat} {v : Bool} (h : i < l.length) : (l.set i v).getD i false = v := by
  rw [List.getD_eq_getElem?_getD, List.getElem?_set_self h]; rfl

/-- what a pass over the nodes of an expression finds. -/
theorem pass_expr {ds : List Dc} (hN : NamesOk ts L ds) : ∀ (t : Ast) (i dl off : Nat) (tr : List Bool) (rest : List Nd), Sp ts t i → i + t.len ≤ ts.length → (∀ x ∈ nmD ts t i false, 0 ≤ findF ds (tkAt ts x.1).text) → off + t.size ≤ tr.length →
    ∃ tr' : List Bool, tr'.length = tr.length ∧ (∀ j, off + t.size ≤ j → tr'.getD j false = tr.getD j false) ∧
      badTypeF ds off ((flat ts t i dl off).map (bindF ds) ++ rest) tr = (wrongR ts L t i (wB (tr.getD off false))).or (badTypeF ds (off + t.size) rest tr') := by
  have other : ∀ (n : Nd) (i dl : Nat), n.kind ≠ 2 → bindF ds (mkN ts i dl n) = mkN ts i dl n := fun n i dl h => by unfold bindF; rw [if_neg (show ¬ (mkN ts i dl n).kind = 2 from h)]
  intro t
  induction t with
  | leaf =>
    intro i dl off tr rest hs hl hd hlen
    refine ⟨tr, rfl, fun _ _ => rfl, ?_⟩
    simp only [flat, List.map_cons, List.map_nil, List.singleton_append]
    rw [badType_cons, fits_first hF hN hs.1 hs.2 (fun hk => hd (i, false) (by simp [nmD, hk])) dl]
    simp only [wrongR, Ast.size]
    have ht : tell (bindF ds (mkN ts i dl (leafN0 (tkAt ts i)))) (tr.getD off false) tr = tr := by
      have hk : (bindF ds (mkN ts i dl (leafN0 (tkAt ts i)))).kind ≤ 2 := by
        rw [(bindF_keep ds _).1, mkN_kind]
        unfold leafN0
        split; · simp
        split; · simp
        split; · simp
        · simp
      unfold tell
      rw [if_neg (by omega), if_neg (by omega), if_neg (by omega), if_neg (by omega)]
    rw [ht]
    have hp : (bindF ds (mkN ts i dl (leafN0 (tkAt ts i)))).pos = (tkAt ts i).pos := by unfold bindF; split <;> rfl
    rw [hp]
    cases badR ts L i (wB (tr.getD off false)) <;> simp
  | neg a iha =>
    intro i dl off tr rest hs hl hd hlen
    obtain ⟨h1, h2, h3, h4⟩ := hs
    have pa := a.size_pos
    simp only [Ast.len, Ast.size] at hl hlen ⊢
    simp only [flat, List.map_cons, List.cons_append]
    rw [other _ _ _ (by simp), badType_cons]
    have hi : isR ts L i = wB true := by rw [isR_open hF h1, if_pos h2]; rfl
    have hf : fitsF ds (mkN ts i dl { ndZero with kind := 3, a := off + 1 }) (tr.getD off false) = !badR ts L i (wB (tr.getD off false)) := by
      rw [bad_truth _ hi]; unfold fitsF; simp [mkN]
    rw [hf]
    simp only [wrongR]
    cases hb : badR ts L i (wB (tr.getD off false)) with
    | true => exact ⟨tr, rfl, fun _ _ => rfl, by simp [mkN]⟩
    | false =>
      have ht : tell (mkN ts i dl { ndZero with kind := 3, a := off + 1 }) (tr.getD off false) tr = tr.set (off + 1) true := by unfold tell; simp [mkN]
      rw [ht]
      obtain ⟨tr', e1, e2, e3⟩ := iha (i + 2) dl (off + 1) (tr.set (off + 1) true) rest h3 (by omega) hd (by simp; omega)
      refine ⟨tr', by rw [e1]; simp, fun j hj => by rw [e2 j (by omega), getD_set_ne (by omega)], ?_⟩
      rw [if_pos (by simp), e3, getD_set_eq (by omega)]
      simp only [Bool.false_eq_true, if_false]
      rw [show off + 1 + a.size = off + (a.size + 1) by omega]
      rfl
  | ite a b c iha ihb ihc =>
    intro i dl off tr rest hs hl hd hlen
    obtain ⟨h1, h2, h3, h4, h5, h6⟩ := hs
    have pa := a.size_pos
    have pb := b.size_pos
    have pc := c.size_pos
    simp only [Ast.len, Ast.size] at hl hlen ⊢
    simp only [flat, List.map_cons, List.cons_append, List.map_append, List.append_assoc]
    rw [other _ _ _ (by simp), badType_cons]
    have hi : isR ts L i = 63 := by rw [isR_open hF h1, if_neg (by rw [h2]; decide), if_pos h2]
    have hf : fitsF ds (mkN ts i dl { ndZero with kind := 4, a := off + 1, b := off + 1 + a.size, c := off + 1 + a.size + b.size }) (tr.getD off false) = true := by
      unfold fitsF; simp [mkN]
    rw [hf, if_pos rfl]
    simp only [wrongR]
    rw [bad_any hi]
    have ht : tell (mkN ts i dl { ndZero with kind := 4, a := off + 1, b := off + 1 + a.size, c := off + 1 + a.size + b.size }) (tr.getD off false) tr = ((tr.set (off + 1) true).set (off + 1 + a.size) (tr.getD off false)).set (off + 1 + a.size + b.size) (tr.getD off false) := by unfold tell; simp [mkN]
    rw [ht]
    generalize hv : tr.getD off false = v
    generalize htr : ((tr.set (off + 1) true).set (off + 1 + a.size) v).set (off + 1 + a.size + b.size) v = tr0
    have l0 : tr0.length = tr.length := by rw [← htr]; simp
    have ga : tr0.getD (off + 1) false = true := by rw [← htr, getD_set_ne (by omega), getD_set_ne (by omega), getD_set_eq (by omega)]
    have gb : tr0.getD (off + 1 + a.size) false = v := by rw [← htr, getD_set_ne (by omega), getD_set_eq (by simp; omega)]
    have gc : tr0.getD (off + 1 + a.size + b.size) false = v := by rw [← htr, getD_set_eq (by simp; omega)]
    have go : ∀ j, off + (a.size + b.size + c.size + 1) ≤ j → tr0.getD j false = tr.getD j false := fun j hj => by rw [← htr, getD_set_ne (by omega), getD_set_ne (by omega), getD_set_ne (by omega)]
    obtain ⟨t1, x1, y1, z1⟩ := iha (i + 2) dl (off + 1) tr0 ((flat ts b (i + 2 + a.len) dl (off + 1 + a.size)).map (bindF ds) ++ ((flat ts c (i + 2 + a.len + b.len) dl (off + 1 + a.size + b.size)).map (bindF ds) ++ rest)) h3 (by omega) (fun x hx => hd x (by simp only [nmD, List.mem_append]; exact .inl hx)) (by omega)
    obtain ⟨t2, x2, y2, z2⟩ := ihb (i + 2 + a.len) dl (off + 1 + a.size) t1 ((flat ts c (i + 2 + a.len + b.len) dl (off + 1 + a.size + b.size)).map (bindF ds) ++ rest) h4 (by omega) (fun x hx => hd x (by simp only [nmD, List.mem_append]; exact .inr (.inl hx))) (by omega)
    obtain ⟨t3, x3, y3, z3⟩ := ihc (i + 2 + a.len + b.len) dl (off + 1 + a.size + b.size) t2 rest h5 (by omega) (fun x hx => hd x (by simp only [nmD, List.mem_append]; exact .inr (.inr hx))) (by omega)
    refine ⟨t3, by omega, fun j hj => by rw [y3 j (by omega), y2 j (by omega), y1 j (by omega), go j hj], ?_⟩
    rw [z1, z2, z3, ga, y1 _ (by omega), gb, y2 _ (by omega), y1 _ (by omega), gc]
    simp only [Bool.false_eq_true, if_false]
    rw [show off + 1 + a.size + b.size + c.size = off + (a.size + b.size + c.size + 1) by omega, Option.or_assoc, Option.or_assoc]
    rfl
  | dly b ihb =>
    intro i dl off tr rest hs hl hd hlen
    obtain ⟨h1, h2, h3, h4, h5⟩ := hs
    have hlf : leafT (tkAt ts (i + 1)) = true := by unfold leafT; rw [h2]; rfl
    obtain ⟨n1, n2, n3, _⟩ := leaf_ne2 hF hlf
    have pb := b.size_pos
    simp only [Ast.len, Ast.size] at hl hlen ⊢
    simp only [flat, List.map_cons, List.cons_append]
    rw [other _ _ _ (by simp), badType_cons]
    have hbh : behindF ts (i + 1) = i + 2 := behind_sp hF .leaf (i + 1) ⟨hlf, n3⟩ (by simp only [Ast.len]; omega)
    have hi : isR ts L i = 63 := by rw [isR_open hF h1, if_neg n1, if_neg n2, hbh]; unfold opR; rw [if_pos h3]
    have hf : fitsF ds (mkN ts i dl { ndZero with kind := 5, a := off + 1, b := off + 2 }) (tr.getD off false) = true := by
      unfold fitsF; simp [mkN]
    rw [hf, if_pos rfl]
    simp only [wrongR]
    rw [bad_any hi]
    have ht : tell (mkN ts i dl { ndZero with kind := 5, a := off + 1, b := off + 2 }) (tr.getD off false) tr = (tr.set (off + 1) (tr.getD off false)).set (off + 2) (tr.getD off false) := by unfold tell; simp [mkN]
    rw [ht]
    generalize hv : tr.getD off false = v
    generalize htr : (tr.set (off + 1) v).set (off + 2) v = tr0
    have l0 : tr0.length = tr.length := by rw [← htr]; simp
    have ga : tr0.getD (off + 1) false = v := by rw [← htr, getD_set_ne (by omega), getD_set_eq (by omega)]
    have gb : tr0.getD (off + 2) false = v := by rw [← htr, getD_set_eq (by simp; omega)]
    have go : ∀ j, off + (b.size + 2) ≤ j → tr0.getD j false = tr.getD j false := fun j hj => by rw [← htr, getD_set_ne (by omega), getD_set_ne (by omega)]
    have hk1 : (tkAt ts (i + 1)).kind ≠ 1 := by have := lit_nm hF h2; unfold isNm at this; simpa using this
    rw [badType_cons, ga, fits_first hF hN hlf n3 (fun hk => absurd hk hk1) dl]
    have ht2 : tell (bindF ds (mkN ts (i + 1) dl (leafN0 (tkAt ts (i + 1))))) v tr0 = tr0 := by
      have hk : (bindF ds (mkN ts (i + 1) dl (leafN0 (tkAt ts (i + 1))))).kind ≤ 2 := by
        rw [(bindF_keep ds _).1, mkN_kind]
        unfold leafN0
        split; · simp
        split; · simp
        split; · simp
        · simp
      unfold tell
      rw [if_neg (by omega), if_neg (by omega), if_neg (by omega), if_neg (by omega)]
    have hp : (bindF ds (mkN ts (i + 1) dl (leafN0 (tkAt ts (i + 1))))).pos = (tkAt ts (i + 1)).pos := by unfold bindF; split <;> rfl
    rw [ht2, hp]
    cases hb : badR ts L (i + 1) (wB v) with
    | true => exact ⟨tr, rfl, fun _ _ => rfl, by simp⟩
    | false =>
      obtain ⟨t1, x1, y1, z1⟩ := ihb (i + 3) (dl + 1) (off + 2) tr0 rest h4 (by omega) (fun x hx => by
        have := hd
        simp only [nmD] at this
        have hmem : (x.1, true) ∈ nmD ts b (i + 3) true := by
          have hx1 : x.1 ∈ (nmD ts b (i + 3) false).map Prod.fst := List.mem_map.2 ⟨x, hx, rfl⟩
          rw [← nm_filter hF b (i + 3) false h4, nm_filter hF b (i + 3) true h4] at hx1
          obtain ⟨y, hy, he⟩ := List.mem_map.1 hx1
          have hyt : y.2 = true := nm_true b (i + 3) y hy
          have e : y = (x.1, true) := Prod.ext he hyt
          rw [← e]; exact hy
        exact this (x.1, true) hmem) (by omega)
      refine ⟨t1, by omega, fun j hj => by rw [y1 j (by omega), go j (by omega)], ?_⟩
      rw [if_pos (by simp), z1, gb]
      simp only [Bool.false_eq_true, if_false, Option.none_or]
      rw [show off + 2 + b.size = off + (b.size + 2) by omega]
  | bin a b iha ihb =>
    intro i dl off tr rest hs hl hd hlen
    obtain ⟨h1, h2, h3, h4, h5⟩ := hs
    obtain ⟨n1, n2⟩ := sp_first hF h2
    have pa := a.size_pos
    have pb := b.size_pos
    simp only [Ast.len, Ast.size] at hl hlen ⊢
    simp only [flat, List.map_cons, List.cons_append, List.map_append, List.append_assoc]
    rw [other _ _ _ (by simp), badType_cons]
    have hbh : behindF ts (i + 1) = i + 1 + a.len := behind_sp hF a (i + 1) h2 (by omega)
    generalize ho : lAt ts (i + 1 + a.len) = o at h3 ⊢
    have hcs : (opR o = wB (makesT ((opOf o).getD 0))) ∧ bothR o = wB (takesT ((opOf o).getD 0)) := by
      revert h3
      unfold opOf
      split; · rename_i e; subst e; intro _; decide
      split; · rename_i e; subst e; intro _; decide
      split; · rename_i e; subst e; intro _; decide
      split; · rename_i e; subst e; intro _; decide
      split; · rename_i e; subst e; intro _; decide
      split; · rename_i e; subst e; intro _; decide
      split; · rename_i e; subst e; intro _; decide
      split; · rename_i e; subst e; intro _; decide
      · intro h; cases h
    have hi : isR ts L i = wB (makesT ((opOf o).getD 0)) := by rw [isR_open hF h1, if_neg n1, if_neg n2, hbh, ho]; exact hcs.1
    have hf : fitsF ds (mkN ts i dl { ndZero with kind := 6, op := (opOf o).getD 0, a := off + 1, b := off + 1 + a.size }) (tr.getD off false) = !badR ts L i (wB (tr.getD off false)) := by
      rw [bad_truth _ hi]; unfold fitsF; simp [mkN]
    rw [hf]
    simp only [wrongR]
    rw [ho]
    cases hb : badR ts L i (wB (tr.getD off false)) with
    | true => exact ⟨tr, rfl, fun _ _ => rfl, by simp [mkN]⟩
    | false =>
      have ht : tell (mkN ts i dl { ndZero with kind := 6, op := (opOf o).getD 0, a := off + 1, b := off + 1 + a.size }) (tr.getD off false) tr = (tr.set (off + 1) (takesT ((opOf o).getD 0))).set (off + 1 + a.size) (takesT ((opOf o).getD 0)) := by unfold tell; simp [mkN]
      rw [ht, hcs.2]
      generalize hv : takesT ((opOf o).getD 0) = v
      generalize htr : (tr.set (off + 1) v).set (off + 1 + a.size) v = tr0
      have l0 : tr0.length = tr.length := by rw [← htr]; simp
      have ga : tr0.getD (off + 1) false = v := by rw [← htr, getD_set_ne (by omega), getD_set_eq (by omega)]
      have gb : tr0.getD (off + 1 + a.size) false = v := by rw [← htr, getD_set_eq (by simp; omega)]
      have go : ∀ j, off + (a.size + b.size + 1) ≤ j → tr0.getD j false = tr.getD j false := fun j hj => by rw [← htr, getD_set_ne (by omega), getD_set_ne (by omega)]
      obtain ⟨t1, x1, y1, z1⟩ := iha (i + 1) dl (off + 1) tr0 ((flat ts b (i + 2 + a.len) dl (off + 1 + a.size)).map (bindF ds) ++ rest) h2 (by omega) (fun x hx => hd x (by simp only [nmD, List.mem_append]; exact .inl hx)) (by omega)
      obtain ⟨t2, x2, y2, z2⟩ := ihb (i + 2 + a.len) dl (off + 1 + a.size) t1 rest h4 (by omega) (fun x hx => hd x (by simp only [nmD, List.mem_append]; exact .inr hx)) (by omega)
      refine ⟨t2, by omega, fun j hj => by rw [y2 j (by omega), y1 j (by omega), go j (by omega)], ?_⟩
      rw [if_pos (by simp), z1, z2, ga, y1 _ (by omega), gb]
      simp only [Bool.false_eq_true, if_false]
      rw [show off + 1 + a.size + b.size = off + (a.size + b.size + 1) by omega, Option.or_assoc]

end

end Go.Proofs.Ytecegaflhdgfaaa

/- Plain mathematics: types, over all declarations. -/
namespace Go.Proofs.Ytecegaflhdgfaaa

/-- the table says of each equation to come what it is. -/
def TrOk : List Dl → Nat → List Bool → Prop
  | [], _, _ => True
  | x :: r, off, tr => if x.kind = 0 then TrOk r off tr else tr.getD off false = (x.kind == 2) ∧ TrOk r (off + x.t.size) tr
def totN : List Dl → Nat
  | [] => 0
  | x :: r => if x.kind = 0 then totN r else x.t.size + totN r
theorem nodesD_len (ts : List Tk) : ∀ (L : List Dl) (off : Nat), (nodesD ts L off).length = totN L := by
  intro L
  induction L with
  | nil => intro off; rfl
  | cons x r ih =>
    intro off
    simp only [nodesD, totN]
    split
    · exact ih off
    · rw [List.length_append, flat_len, ih]

theorem TrOk.congr : ∀ (L : List Dl) (off : Nat) (tr tr' : List Bool), (∀ j, off ≤ j → tr'.getD j false = tr.getD j false) → TrOk L off tr → TrOk L off tr' := by
  intro L
  induction L with
  | nil => intro off tr tr' _ _; trivial
  | cons x r ih =>
    intro off tr tr' h hT
    simp only [TrOk] at hT ⊢
    split
    · rename_i hk; rw [if_pos hk] at hT; exact ih off tr tr' h hT
    · rename_i hk; rw [if_neg hk] at hT; exact ⟨by rw [h off (Nat.le_refl _)]; exact hT.1, ih _ tr tr' (fun j hj => h j (by omega)) hT.2⟩

theorem roots_below (ts : List Tk) : ∀ (L : List Dl) (off a b : Nat) (tr : List Bool) (j : Nat), j < off → (roots (declsD ts L off a b) tr).getD j false = tr.getD j false := by
  intro L
  induction L with
  | nil => intro off a b tr j _; rfl
  | cons x r ih =>
    intro off a b tr j hj
    simp only [declsD]
    split
    · simp only [roots]
      rw [if_neg (show ¬ (dcIn ts x a).kind = 2 by show ¬ (0 : Nat) = 2; decide)]
      exact ih off (a + 1) b tr j hj
    · simp only [roots]
      rw [ih (off + x.t.size) a (b + 1) _ j (by omega)]
      split
      · rw [getD_set_ne (show (dcEq ts x b off).root ≠ j by show off ≠ j; omega)]
      · rfl
theorem roots_len (ds : List Dc) : ∀ (tr : List Bool), (roots ds tr).length = tr.length := by
  induction ds with
  | nil => intro tr; rfl
  | cons d r ih => intro tr; simp only [roots]; rw [ih]; split <;> simp

theorem roots_ok (ts : List Tk) : ∀ (L : List Dl) (off a b : Nat) (tr : List Bool), (∀ j, off ≤ j → tr.getD j false = false) → off + totN L ≤ tr.length → TrOk L off (roots (declsD ts L off a b) tr) := by
  intro L
  induction L with
  | nil => intro off a b tr _ _; trivial
  | cons x r ih =>
    intro off a b tr h hl
    simp only [totN] at hl
    simp only [declsD, TrOk]
    by_cases hk : x.kind = 0
    · rw [if_pos hk] at hl
      rw [if_pos hk, if_pos hk]
      simp only [roots]
      rw [if_neg (show ¬ (dcIn ts x a).kind = 2 by show ¬ (0 : Nat) = 2; decide)]
      exact ih off (a + 1) b tr h hl
    · rw [if_neg hk] at hl
      rw [if_neg hk, if_neg hk]
      have hp := x.t.size_pos
      simp only [roots]
      have hr : (dcEq ts x b off).root = off := rfl
      have hkk : (dcEq ts x b off).kind = x.kind := rfl
      rw [hr, hkk]
      refine ⟨?_, ?_⟩
      · rw [roots_below ts r _ _ _ _ off (by omega)]
        by_cases h2 : x.kind = 2
        · rw [if_pos h2, getD_set_eq (by omega), h2]; rfl
        · rw [if_neg h2, h off (Nat.le_refl _)]
          exact (beq_eq_false_iff_ne.2 h2).symm
      · refine ih _ _ _ _ (fun j hj => ?_) ?_
        · split
          · rw [getD_set_ne (by omega)]; exact h j (by omega)
          · exact h j (by omega)
        · split
          · rw [List.length_set]; omega
          · omega

theorem types_eq {ts : List Tk} (hF : ∀ i, TkF (tkAt ts i)) {L : List Dl} {ds : List Dc} (hN : NamesOk ts L ds) :
    ∀ (L2 : List Dl) (i off : Nat) (tr : List Bool), Spell ts L2 i → TrOk L2 off tr → off + totN L2 ≤ tr.length → (∀ x ∈ L2, x.kind ≠ 0 → ∀ y ∈ nmD ts x.t (x.i + 5) false, 0 ≤ findF ds (tkAt ts y.1).text) →
      badTypeF ds off ((nodesD ts L2 off).map (bindF ds)) tr = (eqL L2).findSome? fun x => wrongR ts L x.t (x.i + 5) (wB (x.kind == 2)) := by
  intro L2
  induction L2 with
  | nil => intro i off tr _ _ _ _; rfl
  | cons x r ih =>
    intro i off tr hs hT hl hd
    obtain ⟨h1, h2, h3, h4⟩ := hs
    simp only [TrOk] at hT
    simp only [totN] at hl
    by_cases hk : x.kind = 0
    · rw [if_pos hk] at hT hl
      have e : eqL (x :: r) = eqL r := by simp [eqL, hk]
      simp only [nodesD, if_pos hk]
      rw [e]
      exact ih _ off tr h4 hT hl (fun y hy => hd y (List.mem_cons_of_mem _ hy))
    · rw [if_neg hk] at hT hl
      have e : eqL (x :: r) = x :: eqL r := by simp [eqL, hk]
      simp only [nodesD, if_neg hk]
      have hsp : Sp ts x.t (x.i + 5) := by
        rcases h3 with ⟨h, _⟩ | ⟨_, _, _, _, _, h, _⟩
        · exact absurd h hk
        · exact h
      have hlen : x.len = x.t.len + 6 := by unfold Dl.len; rw [if_neg hk]
      obtain ⟨tr', e1, e2, e3⟩ := pass_expr hF hN x.t (x.i + 5) 0 off tr ((nodesD ts r (off + x.t.size)).map (bindF ds)) hsp (by omega) (hd x (List.mem_cons_self ..) hk) (by omega)
      rw [List.map_append, e3, e, List.findSome?_cons, hT.1, ih _ (off + x.t.size) tr' h4 (hT.2.congr r _ tr tr' e2) (by omega) (fun y hy => hd y (List.mem_cons_of_mem _ hy))]
      cases wrongR ts L x.t (x.i + 5) (wB (x.kind == 2)) <;> rfl

end Go.Proofs.Ytecegaflhdgfaaa
