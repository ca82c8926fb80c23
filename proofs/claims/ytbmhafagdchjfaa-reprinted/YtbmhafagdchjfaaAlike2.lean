import Derived.Test.YtbmhafagdchjfaaAlike
/- Plain mathematics: what is alike is judged alike. -/
namespace Go.Proofs.Ytbmhafagdchjfaa

def OR (P : Nat → Nat → Prop) : Option Nat → Option Nat → Prop
  | none, none => True
  | some a, some b => P a b
  | _, _ => False

theorem tooManyR {P : Nat → Nat → Prop} : ∀ {l l' : List Dc}, All2 (DR P) l l' → OR P (tooManyF l) (tooManyF l') := by
  intro l
  induction l with
  | nil => intro m h; cases m with
    | nil => exact trivial
    | cons b m => exact h.elim
  | cons a l ih => intro m h; cases m with
    | nil => exact h.elim
    | cons b m =>
      obtain ⟨⟨e, hp⟩, h2⟩ := h
      unfold tooManyF
      have e1 : most b = most a := by rw [e]; rfl
      have e2 : b.number = a.number := by rw [e]
      rw [e1, e2]
      split
      · exact hp
      · exact ih h2

theorem findR {P : Nat → Nat → Prop} {l l' : List Dc} (h : All2 (DR P) l l') (name : ByteArray) : findF l' name = findF l name := by
  have : ∀ {l l' : List Dc}, All2 (DR P) l l' → l'.findIdx? (fun d => d.name.data.toList == name.data.toList) = l.findIdx? (fun d => d.name.data.toList == name.data.toList) := by
    intro l
    induction l with
    | nil => intro m h; cases m with
      | nil => rfl
      | cons b m => exact h.elim
    | cons a l ih => intro m h; cases m with
      | nil => exact h.elim
      | cons b m =>
        obtain ⟨⟨e, hp⟩, h2⟩ := h
        have e1 : b.name = a.name := by rw [e]
        rw [List.findIdx?_cons, List.findIdx?_cons, e1, ih h2]
  unfold findF
  rw [this h]

theorem bindR {P : Nat → Nat → Prop} {l l' : List Dc} (h : All2 (DR P) l l') {ns ns' : List Nd} (hn : All2 (NR P) ns ns') : All2 (NR P) (ns.map (bindF l)) (ns'.map (bindF l')) := by
  refine All2.map ?_ hn
  intro a b hab
  obtain ⟨e, hp⟩ := hab
  unfold bindF
  have e1 : b.kind = a.kind := by rw [e]
  have e2 : b.name = a.name := by rw [e]
  rw [e1, e2, findR h]
  split
  · refine ⟨?_, hp⟩
    rw [e]
  · exact ⟨e, hp⟩

theorem segR {P : Nat → Nat → Prop} {ns ns' : List Nd} (hn : All2 (NR P) ns ns') (a b : Nat) : All2 (NR P) (seg ns a b) (seg ns' a b) := (hn.drop a).take (b - a)

theorem badNodeR {P : Nat → Nat → Prop} : ∀ {l l' : List Nd}, All2 (NR P) l l' → OR P (badNodeF l) (badNodeF l') := by
  intro l
  induction l with
  | nil => intro m h; cases m with
    | nil => exact trivial
    | cons b m => exact h.elim
  | cons a l ih => intro m h; cases m with
    | nil => exact h.elim
    | cons b m =>
      obtain ⟨⟨e, hp⟩, h2⟩ := h
      unfold badNodeF
      have e1 : b.kind = a.kind := by rw [e]
      have e2 : b.decl = a.decl := by rw [e]
      rw [e1, e2]
      split
      · exact hp
      · exact ih h2

theorem OR.two {P : Nat → Nat → Prop} {x y : Option Nat} (h : OR P x y) : (x = none ∧ y = none) ∨ ∃ a b, x = some a ∧ y = some b ∧ P a b := by
  cases x with
  | none => cases y with
    | none => exact .inl ⟨rfl, rfl⟩
    | some b => exact h.elim
  | some a => cases y with
    | none => exact h.elim
    | some b => exact .inr ⟨a, b, rfl, rfl, h⟩

theorem badNameR {P : Nat → Nat → Prop} {all all' : List Dc} (ha : All2 (DR P) all all') {ns ns' : List Nd} (hn : All2 (NR P) ns ns') : ∀ {l l' : List Dc} (i : Nat), All2 (DR P) l l' → OR P (badNameF all ns i l) (badNameF all' ns' i l') := by
  intro l
  induction l with
  | nil => intro m i h; cases m with
    | nil => exact trivial
    | cons b m => exact h.elim
  | cons a l ih => intro m i h; cases m with
    | nil => exact h.elim
    | cons b m =>
      obtain ⟨⟨e, hp⟩, h2⟩ := h
      unfold badNameF
      have e1 : b.name = a.name := by rw [e]
      have e2 : b.root = a.root := by rw [e]
      have e3 : b.fin = a.fin := by rw [e]
      rw [e1, e2, e3, findR ha]
      split
      · exact hp
      · rcases (badNodeR (segR hn a.root a.fin)).two with ⟨h1, h3⟩ | ⟨x, y, h1, h3, h4⟩
        · rw [h1, h3]; exact ih (i + 1) h2
        · rw [h1, h3]; exact h4

theorem kindAtR {P : Nat → Nat → Prop} {ds ds' : List Dc} (h : All2 (DR P) ds ds') (i : Int) : kindAt ds' i = kindAt ds i := by
  unfold kindAt
  exact All2.getD (R := fun d d' : Dc => d'.kind = d.kind) rfl _ (by
    have := All2.map (f := id) (g := id) (S := fun d d' : Dc => d'.kind = d.kind) (fun a b hab => by
      have e := hab.1
      show b.kind = a.kind
      rw [e]) h
    simpa using this)

theorem badTypeR {P : Nat → Nat → Prop} {ds ds' : List Dc} (hd : All2 (DR P) ds ds') : ∀ {l l' : List Nd} (i : Nat) (tr : List Bool), All2 (NR P) l l' → OR P (badTypeF ds i l tr) (badTypeF ds' i l' tr) := by
  intro l
  induction l with
  | nil => intro m i tr h; cases m with
    | nil => exact trivial
    | cons b m => exact h.elim
  | cons a l ih => intro m i tr h; cases m with
    | nil => exact h.elim
    | cons b m =>
      obtain ⟨⟨e, hp⟩, h2⟩ := h
      unfold badTypeF
      have e1 : fitsF ds' b (tr.getD i false) = fitsF ds a (tr.getD i false) := by
        rw [e]; unfold fitsF; simp only [kindAtR hd]
      have e2 : tell b (tr.getD i false) tr = tell a (tr.getD i false) tr := by rw [e]; rfl
      rw [e1, e2]
      split
      · exact ih (i + 1) _ h2
      · exact hp

theorem rootsR {P : Nat → Nat → Prop} : ∀ {l l' : List Dc} (tr : List Bool), All2 (DR P) l l' → roots l' tr = roots l tr := by
  intro l
  induction l with
  | nil => intro m tr h; cases m with
    | nil => rfl
    | cons b m => exact h.elim
  | cons a l ih => intro m tr h; cases m with
    | nil => exact h.elim
    | cons b m =>
      obtain ⟨⟨e, hp⟩, h2⟩ := h
      unfold roots
      have e1 : b.kind = a.kind := by rw [e]
      have e2 : b.root = a.root := by rw [e]
      rw [e1, e2, ih _ h2]

theorem markSegR {P : Nat → Nat → Prop} (i : Nat) : ∀ {l l' : List Nd} (M : Mx), All2 (NR P) l l' → markSeg i l' M = markSeg i l M := by
  intro l
  induction l with
  | nil => intro m M h; cases m with
    | nil => rfl
    | cons b m => exact h.elim
  | cons a l ih => intro m M h; cases m with
    | nil => exact h.elim
    | cons b m =>
      obtain ⟨⟨e, hp⟩, h2⟩ := h
      unfold markSeg
      have e1 : b.kind = a.kind := by rw [e]
      have e2 : b.delayed = a.delayed := by rw [e]
      have e3 : b.decl = a.decl := by rw [e]
      rw [e1, e2, e3, ih _ h2]

theorem markAllR {P : Nat → Nat → Prop} {ns ns' : List Nd} (hn : All2 (NR P) ns ns') : ∀ {l l' : List Dc} (i : Nat) (M : Mx), All2 (DR P) l l' → markAll ns' i l' M = markAll ns i l M := by
  intro l
  induction l with
  | nil => intro m i M h; cases m with
    | nil => rfl
    | cons b m => exact h.elim
  | cons a l ih => intro m i M h; cases m with
    | nil => exact h.elim
    | cons b m =>
      obtain ⟨⟨e, hp⟩, h2⟩ := h
      unfold markAll
      have e1 : b.root = a.root := by rw [e]
      have e2 : b.fin = a.fin := by rw [e]
      rw [e1, e2, markSegR i M (segR hn _ _), ih _ _ h2]

theorem firstSelfR {P : Nat → Nat → Prop} (M : Mx) : ∀ {l l' : List Dc} (i : Nat), All2 (DR P) l l' → OR P (firstSelf M i l) (firstSelf M i l') := by
  intro l
  induction l with
  | nil => intro m i h; cases m with
    | nil => exact trivial
    | cons b m => exact h.elim
  | cons a l ih => intro m i h; cases m with
    | nil => exact h.elim
    | cons b m =>
      obtain ⟨⟨e, hp⟩, h2⟩ := h
      unfold firstSelf
      split
      · exact hp
      · exact ih (i + 1) h2

theorem cycleR {P : Nat → Nat → Prop} {ds ds' : List Dc} (hd : All2 (DR P) ds ds') {ns ns' : List Nd} (hn : All2 (NR P) ns ns') : OR P (cycleF ds ns) (cycleF ds' ns') := by
  unfold cycleF
  rw [markAllR hn _ _ hd, hd.len]
  exact firstSelfR _ _ hd

theorem usesSegR {P : Nat → Nat → Prop} (decl : Nat) : ∀ {l l' : List Nd} (u p : Bool), All2 (NR P) l l' → usesSeg decl l' u p = usesSeg decl l u p := by
  intro l
  induction l with
  | nil => intro m u p h; cases m with
    | nil => rfl
    | cons b m => exact h.elim
  | cons a l ih => intro m u p h; cases m with
    | nil => exact h.elim
    | cons b m =>
      obtain ⟨⟨e, hp⟩, h2⟩ := h
      unfold usesSeg
      have e1 : b.kind = a.kind := by rw [e]
      have e2 : b.decl = a.decl := by rw [e]
      have e3 : b.behind = a.behind := by rw [e]
      rw [e1, e2, e3, ih _ _ h2, ih _ _ h2]

theorem usesAllR {P : Nat → Nat → Prop} {ns ns' : List Nd} (hn : All2 (NR P) ns ns') (decl place : Nat) : ∀ {l l' : List Dc} (u p : Bool), All2 (DR P) l l' → usesAll ns' decl place l' u p = usesAll ns decl place l u p := by
  intro l
  induction l with
  | nil => intro m u p h; cases m with
    | nil => rfl
    | cons b m => exact h.elim
  | cons a l ih => intro m u p h; cases m with
    | nil => exact h.elim
    | cons b m =>
      obtain ⟨⟨e, hp⟩, h2⟩ := h
      unfold usesAll
      have e1 : b.kind = a.kind := by rw [e]
      have e2 : b.place = a.place := by rw [e]
      have e3 : b.root = a.root := by rw [e]
      have e4 : b.fin = a.fin := by rw [e]
      rw [e1, e2, e3, e4, usesSegR decl _ _ (segR hn _ _), ih _ _ h2, ih _ _ h2]

theorem linksR {P : Nat → Nat → Prop} {ds ds' : List Dc} (hd : All2 (DR P) ds ds') {ns ns' : List Nd} (hn : All2 (NR P) ns ns') : linksF ds' ns' = linksF ds ns := by
  have hu : ∀ i q, usesF ds' ns' i q = usesF ds ns i q := fun i q => usesAllR hn i q _ _ hd
  have hto : ∀ i (d d' : Dc), DR P d d' → ∀ q, linksTo ds' ns' i d' q = linksTo ds ns i d q := by
    intro i d d' hdd q
    induction q with
    | zero => rfl
    | succ q ih =>
      unfold linksTo linkAt
      have e1 : d'.place = d.place := by rw [hdd.1]
      have e2 : d'.number = d.number := by rw [hdd.1]
      rw [ih, hu, e1, e2]
  have hfrom : ∀ {l l' : List Dc} (i : Nat), All2 (DR P) l l' → linksFrom ds' ns' i l' = linksFrom ds ns i l := by
    intro l
    induction l with
    | nil => intro m i h; cases m with
      | nil => rfl
      | cons b m => exact h.elim
    | cons a l ih => intro m i h; cases m with
      | nil => exact h.elim
      | cons b m =>
        unfold linksFrom
        have e1 : b.kind = a.kind := by rw [h.1.1]
        rw [e1, hto i a b h.1 4, ih (i + 1) h.2]
  exact hfrom 0 hd

theorem eqsR {P : Nat → Nat → Prop} {ds ds' : List Dc} (hd : All2 (DR P) ds ds') : All2 (DR P) (eqsF ds) (eqsF ds') :=
  All2.filter (fun a b hab => by rw [hab.1]) hd

theorem waitsR {P : Nat → Nat → Prop} {es es' : List Dc} (he : All2 (DR P) es es') : ∀ (l : List Rt) (M : Mx), waitsM es' l M = waitsM es l M := by
  have hp : ∀ k, (es'.getD k ⟨0, 0, ⟨#[]⟩, 0, 0, 0, 0⟩).place = (es.getD k ⟨0, 0, ⟨#[]⟩, 0, 0, 0, 0⟩).place := by
    intro k
    exact All2.getD (R := fun d d' : Dc => d'.place = d.place) rfl _ (by
      have := All2.map (f := id) (g := id) (S := fun d d' : Dc => d'.place = d.place) (fun a b hab => by
        have e := hab.1
        show b.place = a.place
        rw [e]) he
      simpa using this)
  intro l
  induction l with
  | nil => intro M; rfl
  | cons r l ih => intro M; unfold waitsM; rw [hp, ih]

theorem firstAtR {P : Nat → Nat → Prop} (M : Mx) : ∀ {l l' : List Dc}, All2 (DR P) l l' → OR P (firstAt M l) (firstAt M l') := by
  intro l
  induction l with
  | nil => intro m h; cases m with
    | nil => exact trivial
    | cons b m => exact h.elim
  | cons a l ih => intro m h; cases m with
    | nil => exact h.elim
    | cons b m =>
      obtain ⟨⟨e, hp⟩, h2⟩ := h
      unfold firstAt
      have e1 : b.place = a.place := by rw [e]
      rw [e1]
      split
      · exact hp
      · exact ih h2

theorem loopR {P : Nat → Nat → Prop} {ds ds' : List Dc} (hd : All2 (DR P) ds ds') {ns ns' : List Nd} (hn : All2 (NR P) ns ns') : OR P (loopF ds ns) (loopF ds' ns') := by
  unfold loopF
  rw [linksR hd hn, waitsR (eqsR hd)]
  exact firstAtR _ (eqsR hd)

/-- the same error, and places that belong together. -/
def AR (P : Nat → Nat → Prop) (x y : Nat × Nat) : Prop := y.1 = x.1 ∧ P x.2 y.2

theorem meaningR {P : Nat → Nat → Prop} (h00 : P 0 0) {ds ds' : List Dc} (hd : All2 (DR P) ds ds') {ns ns' : List Nd} (hn : All2 (NR P) ns ns') : AR P (meaningF ds ns) (meaningF ds' ns') := by
  unfold meaningF
  rcases (tooManyR hd).two with ⟨h1, h2⟩ | ⟨a, b, h1, h2, h3⟩
  · rw [h1, h2]
    rcases (badNameR hd hn 0 hd).two with ⟨h1, h2⟩ | ⟨a, b, h1, h2, h3⟩
    · rw [h1, h2, rootsR _ hd, hn.len]
      rcases (badTypeR hd 0 (roots ds (List.replicate ns.length false)) hn).two with ⟨h1, h2⟩ | ⟨a, b, h1, h2, h3⟩
      · rw [h1, h2]
        rcases (cycleR hd hn).two with ⟨h1, h2⟩ | ⟨a, b, h1, h2, h3⟩
        · rw [h1, h2]
          rcases (loopR hd hn).two with ⟨h1, h2⟩ | ⟨a, b, h1, h2, h3⟩
          · rw [h1, h2]; exact ⟨rfl, h00⟩
          · rw [h1, h2]; exact ⟨rfl, h3⟩
        · rw [h1, h2]; exact ⟨rfl, h3⟩
      · rw [h1, h2]; exact ⟨rfl, h3⟩
    · rw [h1, h2]; exact ⟨rfl, h3⟩
  · rw [h1, h2]; exact ⟨rfl, h3⟩

theorem SR.start (P : Nat → Nat → Prop) : SR P pZero pZero := ⟨rfl, rfl, rfl, trivial, trivial⟩

theorem textR {P : Nat → Nat → Prop} (h00 : P 0 0) (s s' : ByteArray) (hs : s.size ≤ 1500) (hs' : s'.size ≤ 1500) (ht : TsR P (toks s) (toks s')) : AR P (textF s) (textF s') := by
  unfold textF
  rw [if_neg (by omega), if_neg (by omega)]
  have hp : RR (SR P) (parseF s) (parseF s') := by
    unfold parseF
    rw [ht.len]
    exact declsR h00 ht _ _ _ (SR.start P)
  rcases hp.two with ⟨e, h1, h2⟩ | ⟨p, p', h1, h2, h3⟩
  · rw [h1, h2]; exact ⟨rfl, (ht.at' e).pos⟩
  · rw [h1, h2]
    exact meaningR h00 h3.decls (bindR h3.decls h3.nodes)

end Go.Proofs.Ytbmhafagdchjfaa
