import Derived.Test.YtmndgoapkmhglabM03RefClass
import Derived.Test.YtmndgoapkmhglabM04ParA
/- Plain mathematics: what is alike is judged alike. -/
namespace Go.Proofs.Ytmndgoapkmhglab

def OR (P : Nat → Nat → Prop) : Option Nat → Option Nat → Prop
  | none, none => True
  | some a, some b => P a b
  | _, _ => False

theorem tooManyR {P : Nat → Nat → Prop} : ∀ {l l' : List Dc}, All2 (DR P) l l' → OR P (tooManyF l) (tooManyF l') := by
  intro l
  induction l with
  | nil => intro m h; cases m with
    | nil => exact trivial
    | cons b m => exact h.elim
  | cons a l ih => intro m h; cases m with
    | nil => exact h.elim
    | cons b m =>
      obtain ⟨⟨e, hp⟩, h2⟩ := h
      unfold tooManyF
      have e1 : most b = most a := by rw [e]; rfl
      have e2 : b.number = a.number := by rw [e]
      rw [e1, e2]
      split
      · exact hp
      · exact ih h2

theorem findR {P : Nat → Nat → Prop} {l l' : List Dc} (h : All2 (DR P) l l') (name : ByteArray) : findF l' name = findF l name := by
  have : ∀ {l l' : List Dc}, All2 (DR P) l l' → l'.findIdx? (fun d => d.name.data.toList == name.data.toList) = l.findIdx? (fun d => d.name.data.toList == name.data.toList) := by
    intro l
    induction l with
    | nil => intro m h; cases m with
      | nil => rfl
      | cons b m => exact h.elim
    | cons a l ih => intro m h; cases m with
      | nil => exact h.elim
      | cons b m =>
        obtain ⟨⟨e, hp⟩, h2⟩ := h
        have e1 : b.name = a.name := by rw [e]
        rw [List.findIdx?_cons, List.findIdx?_cons, e1, ih h2]
  unfold findF
  rw [this h]

theorem bindR {P : Nat → Nat → Prop} {l l' : List Dc} (h : All2 (DR P) l l') {ns ns' : List Nd} (hn : All2 (NR P) ns ns') : All2 (NR P) (ns.map (bindF l)) (ns'.map (bindF l')) := by
  refine All2.map ?_ hn
  intro a b hab
  obtain ⟨e, hp⟩ := hab
  unfold bindF
  have e1 : b.kind = a.kind := by rw [e]
  have e2 : b.name = a.name := by rw [e]
  rw [e1, e2, findR h]
  split
  · refine ⟨?_, hp⟩
    rw [e]
  · exact ⟨e, hp⟩

theorem segR {P : Nat → Nat → Prop} {ns ns' : List Nd} (hn : All2 (NR P) ns ns') (a b : Nat) : All2 (NR P) (seg ns a b) (seg ns' a b) := (hn.drop a).take (b - a)

theorem badNodeR {P : Nat → Nat → Prop} : ∀ {l l' : List Nd}, All2 (NR P) l l' → OR P (badNodeF l) (badNodeF l') := by
  intro l
  induction l with
  | nil => intro m h; cases m with
    | nil => exact trivial
    | cons b m => exact h.elim
  | cons a l ih => intro m h; cases m with
    | nil => exact h.elim
    | cons b m =>
      obtain ⟨⟨e, hp⟩, h2⟩ := h
      unfold badNodeF
      have e1 : b.kind = a.kind := by rw [e]
      have e2 : b.decl = a.decl := by rw [e]
      rw [e1, e2]
      split
      · exact hp
      · exact ih h2

theorem OR.two {P : Nat → Nat → Prop} {x y : Option Nat} (h : OR P x y) : (x = none ∧ y = none) ∨ ∃ a b, x = some a ∧ y = some b ∧ P a b := by
  cases x with
  | none => cases y with
    | none => exact .inl ⟨rfl, rfl⟩
    | some b => exact h.elim
  | some a => cases y with
    | none => exact h.elim
    | some b => exact .inr ⟨a, b, rfl, rfl, h⟩

theorem badNameR {P : Nat → Nat → Prop} {all all' : List Dc} (ha : All2 (DR P) all all') {ns ns' : List Nd} (hn : All2 (NR P) ns ns') : ∀ {l l' : List Dc} (i : Nat), All2 (DR P) l l' → OR P (badNameF all ns i l) (badNameF all' ns' i l') := by
  intro l
  induction l with
  | nil => intro m i h; cases m with
    | nil => exact trivial
    | cons b m => exact h.elim
  | cons a l ih => intro m i h; cases m with
    | nil => exact h.elim
    | cons b m =>
      obtain ⟨⟨e, hp⟩, h2⟩ := h
      unfold badNameF
      have e1 : b.name = a.name := by rw [e]
      have e2 : b.root = a.root := by rw [e]
      have e3 : b.fin = a.fin := by rw [e]
      rw [e1, e2, e3, findR ha]
      split
      · exact hp
      · rcases (badNodeR (segR hn a.root a.fin)).two with ⟨h1, h3⟩ | ⟨x, y, h1, h3, h4⟩
        · rw [h1, h3]; exact ih (i + 1) h2
        · rw [h1, h3]; exact h4

theorem kindAtR {P : Nat → Nat → Prop} {ds ds' : List Dc} (h : All2 (DR P) ds ds') (i : Int) : kindAt ds' i = kindAt ds i := by
  unfold kindAt
  exact All2.getD (R := fun d d' : Dc => d'.kind = d.kind) rfl _ (by
    have := All2.map (f := id) (g := id) (S := fun d d' : Dc => d'.kind = d.kind) (fun a b hab => by
      have e := hab.1
      show b.kind = a.kind
      rw [e]) h
    simpa using this)

theorem badTypeR {P : Nat → Nat → Prop} {ds ds' : List Dc} (hd : All2 (DR P) ds ds') : ∀ {l l' : List Nd} (i : Nat) (tr : List Bool), All2 (NR P) l l' → OR P (badTypeF ds i l tr) (badTypeF ds' i l' tr) := by
  intro l
  induction l with
  | nil => intro m i tr h; cases m with
    | nil => exact trivial
    | cons b m => exact h.elim
  | cons a l ih => intro m i tr h; cases m with
    | nil => exact h.elim
    | cons b m =>
      obtain ⟨⟨e, hp⟩, h2⟩ := h
      unfold badTypeF
      have e1 : fitsF ds' b (tr.getD i false) = fitsF ds a (tr.getD i false) := by
        rw [e]; unfold fitsF; simp only [kindAtR hd]
      have e2 : tell b (tr.getD i false) tr = tell a (tr.getD i false) tr := by rw [e]; rfl
      rw [e1, e2]
      split
      · exact ih (i + 1) _ h2
      · exact hp

theorem rootsR {P : Nat → Nat → Prop} : ∀ {l l' : List Dc} (tr : List Bool), All2 (DR P) l l' → roots l' tr = roots l tr := by
  intro l
  induction l with
  | nil => intro m tr h; cases m with
    | nil => rfl
    | cons b m => exact h.elim
  | cons a l ih => intro m tr h; cases m with
    | nil => exact h.elim
    | cons b m =>
      obtain ⟨⟨e, hp⟩, h2⟩ := h
      unfold roots
      have e1 : b.kind = a.kind := by rw [e]
      have e2 : b.root = a.root := by rw [e]
      rw [e1, e2, ih _ h2]

theorem markSegR {P : Nat → Nat → Prop} {ds ds' : List Dc} (hd : All2 (DR P) ds ds') (i : Nat) : ∀ {l l' : List Nd} (M : Mx), All2 (NR P) l l' → markSeg ds' i l' M = markSeg ds i l M := by
  intro l
  induction l with
  | nil => intro m M h; cases m with
    | nil => rfl
    | cons b m => exact h.elim
  | cons a l ih => intro m M h; cases m with
    | nil => exact h.elim
    | cons b m =>
      obtain ⟨⟨e, hp⟩, h2⟩ := h
      unfold markSeg
      have e1 : b.kind = a.kind := by rw [e]
      have e2 : b.delayed = a.delayed := by rw [e]
      have e3 : b.decl = a.decl := by rw [e]
      rw [e1, e2, e3, kindAtR hd, ih _ h2]

theorem markAllR {P : Nat → Nat → Prop} {ds ds' : List Dc} (hd : All2 (DR P) ds ds') {ns ns' : List Nd} (hn : All2 (NR P) ns ns') : ∀ {l l' : List Dc} (i : Nat) (M : Mx), All2 (DR P) l l' → markAll ds' ns' i l' M = markAll ds ns i l M := by
  intro l
  induction l with
  | nil => intro m i M h; cases m with
    | nil => rfl
    | cons b m => exact h.elim
  | cons a l ih => intro m i M h; cases m with
    | nil => exact h.elim
    | cons b m =>
      obtain ⟨⟨e, hp⟩, h2⟩ := h
      unfold markAll
      have e1 : b.root = a.root := by rw [e]
      have e2 : b.fin = a.fin := by rw [e]
      rw [e1, e2, markSegR hd i M (segR hn _ _), ih _ _ h2]

theorem firstSelfR {P : Nat → Nat → Prop} (M : Mx) : ∀ {l l' : List Dc} (i : Nat), All2 (DR P) l l' → OR P (firstSelf M i l) (firstSelf M i l') := by
  intro l
  induction l with
  | nil => intro m i h; cases m with
    | nil => exact trivial
    | cons b m => exact h.elim
  | cons a l ih => intro m i h; cases m with
    | nil => exact h.elim
    | cons b m =>
      obtain ⟨⟨e, hp⟩, h2⟩ := h
      unfold firstSelf
      split
      · exact hp
      · exact ih (i + 1) h2

theorem cycleR {P : Nat → Nat → Prop} {ds ds' : List Dc} (hd : All2 (DR P) ds ds') {ns ns' : List Nd} (hn : All2 (NR P) ns ns') : OR P (cycleF ds ns) (cycleF ds' ns') := by
  unfold cycleF
  rw [markAllR hd hn _ _ hd, hd.len]
  exact firstSelfR _ _ hd

theorem usesSegR {P : Nat → Nat → Prop} (decl : Nat) : ∀ {l l' : List Nd} (u p : Bool), All2 (NR P) l l' → usesSeg decl l' u p = usesSeg decl l u p := by
  intro l
  induction l with
  | nil => intro m u p h; cases m with
    | nil => rfl
    | cons b m => exact h.elim
  | cons a l ih => intro m u p h; cases m with
    | nil => exact h.elim
    | cons b m =>
      obtain ⟨⟨e, hp⟩, h2⟩ := h
      unfold usesSeg
      have e1 : b.kind = a.kind := by rw [e]
      have e2 : b.decl = a.decl := by rw [e]
      have e3 : b.behind = a.behind := by rw [e]
      rw [e1, e2, e3, ih _ _ h2, ih _ _ h2]

theorem usesAllR {P : Nat → Nat → Prop} {ns ns' : List Nd} (hn : All2 (NR P) ns ns') (decl place : Nat) : ∀ {l l' : List Dc} (u p : Bool), All2 (DR P) l l' → usesAll ns' decl place l' u p = usesAll ns decl place l u p := by
  intro l
  induction l with
  | nil => intro m u p h; cases m with
    | nil => rfl
    | cons b m => exact h.elim
  | cons a l ih => intro m u p h; cases m with
    | nil => exact h.elim
    | cons b m =>
      obtain ⟨⟨e, hp⟩, h2⟩ := h
      unfold usesAll
      have e1 : b.kind = a.kind := by rw [e]
      have e2 : b.place = a.place := by rw [e]
      have e3 : b.root = a.root := by rw [e]
      have e4 : b.fin = a.fin := by rw [e]
      rw [e1, e2, e3, e4, usesSegR decl _ _ (segR hn _ _), ih _ _ h2, ih _ _ h2]

theorem linksR {P : Nat → Nat → Prop} {ds ds' : List Dc} (hd : All2 (DR P) ds ds') {ns ns' : List Nd} (hn : All2 (NR P) ns ns') : linksF ds' ns' = linksF ds ns := by
  have hu : ∀ i q, usesF ds' ns' i q = usesF ds ns i q := fun i q => usesAllR hn i q _ _ hd
  have hto : ∀ i (d d' : Dc), DR P d d' → ∀ q, linksTo ds' ns' i d' q = linksTo ds ns i d q := by
    intro i d d' hdd q
    induction q with
    | zero => rfl
    | succ q ih =>
      unfold linksTo linkAt
      have e1 : d'.place = d.place := by rw [hdd.1]
      have e2 : d'.number = d.number := by rw [hdd.1]
      rw [ih, hu, e1, e2]
  have hfrom : ∀ {l l' : List Dc} (i : Nat), All2 (DR P) l l' → linksFrom ds' ns' i l' = linksFrom ds ns i l := by
    intro l
    induction l with
    | nil => intro m i h; cases m with
      | nil => rfl
      | cons b m => exact h.elim
    | cons a l ih => intro m i h; cases m with
      | nil => exact h.elim
      | cons b m =>
        unfold linksFrom
        have e1 : b.kind = a.kind := by rw [h.1.1]
        rw [e1, hto i a b h.1 4, ih (i + 1) h.2]
  exact hfrom 0 hd

theorem eqsR {P : Nat → Nat → Prop} {ds ds' : List Dc} (hd : All2 (DR P) ds ds') : All2 (DR P) (eqsF ds) (eqsF ds') :=
  All2.filter (fun a b hab => by rw [hab.1]) hd

theorem waitsR {P : Nat → Nat → Prop} {es es' : List Dc} (he : All2 (DR P) es es') : ∀ (l : List Rt) (M : Mx), waitsM es' l M = waitsM es l M := by
  have hp : ∀ k, (es'.getD k ⟨0, 0, ⟨#[]⟩, 0, 0, 0, 0⟩).place = (es.getD k ⟨0, 0, ⟨#[]⟩, 0, 0, 0, 0⟩).place := by
    intro k
    exact All2.getD (R := fun d d' : Dc => d'.place = d.place) rfl _ (by
      have := All2.map (f := id) (g := id) (S := fun d d' : Dc => d'.place = d.place) (fun a b hab => by
        have e := hab.1
        show b.place = a.place
        rw [e]) he
      simpa using this)
  intro l
  induction l with
  | nil => intro M; rfl
  | cons r l ih => intro M; unfold waitsM; rw [hp, ih]

theorem firstAtR {P : Nat → Nat → Prop} (M : Mx) : ∀ {l l' : List Dc}, All2 (DR P) l l' → OR P (firstAt M l) (firstAt M l') := by
  intro l
  induction l with
  | nil => intro m h; cases m with
    | nil => exact trivial
    | cons b m => exact h.elim
  | cons a l ih => intro m h; cases m with
    | nil => exact h.elim
    | cons b m =>
      obtain ⟨⟨e, hp⟩, h2⟩ := h
      unfold firstAt
      have e1 : b.place = a.place := by rw [e]
      rw [e1]
      split
      · exact hp
      · exact ih h2

theorem loopR {P : Nat → Nat → Prop} {ds ds' : List Dc} (hd : All2 (DR P) ds ds') {ns ns' : List Nd} (hn : All2 (NR P) ns ns') : OR P (loopF ds ns) (loopF ds' ns') := by
  unfold loopF
  rw [linksR hd hn, waitsR (eqsR hd)]
  exact firstAtR _ (eqsR hd)

/-- the same error, and places that belong together. -/
def AR (P : Nat → Nat → Prop) (x y : Nat × Nat) : Prop := y.1 = x.1 ∧ P x.2 y.2

theorem meaningR {P : Nat → Nat → Prop} (h00 : P 0 0) {ds ds' : List Dc} (hd : All2 (DR P) ds ds') {ns ns' : List Nd} (hn : All2 (NR P) ns ns') : AR P (meaningF ds ns) (meaningF ds' ns') := by
  unfold meaningF
  rcases (tooManyR hd).two with ⟨h1, h2⟩ | ⟨a, b, h1, h2, h3⟩
  · rw [h1, h2]
    rcases (badNameR hd hn 0 hd).two with ⟨h1, h2⟩ | ⟨a, b, h1, h2, h3⟩
    · rw [h1, h2, rootsR _ hd, hn.len]
      rcases (badTypeR hd 0 (roots ds (List.replicate ns.length false)) hn).two with ⟨h1, h2⟩ | ⟨a, b, h1, h2, h3⟩
      · rw [h1, h2]
        rcases (cycleR hd hn).two with ⟨h1, h2⟩ | ⟨a, b, h1, h2, h3⟩
        · rw [h1, h2]
          rcases (loopR hd hn).two with ⟨h1, h2⟩ | ⟨a, b, h1, h2, h3⟩
          · rw [h1, h2]; exact ⟨rfl, h00⟩
          · rw [h1, h2]; exact ⟨rfl, h3⟩
        · rw [h1, h2]; exact ⟨rfl, h3⟩
      · rw [h1, h2]; exact ⟨rfl, h3⟩
    · rw [h1, h2]; exact ⟨rfl, h3⟩
  · rw [h1, h2]; exact ⟨rfl, h3⟩

theorem SR.start (P : Nat → Nat → Prop) : SR P pZero pZero := ⟨rfl, rfl, rfl, trivial, trivial⟩

theorem textR {P : Nat → Nat → Prop} (h00 : P 0 0) (s s' : ByteArray) (hs : s.size ≤ 1500) (hs' : s'.size ≤ 1500) (ht : TsR P (toks s) (toks s')) : AR P (textF s) (textF s') := by
  unfold textF
  rw [if_neg (by omega), if_neg (by omega)]
  have hp : RR (SR P) (parseF s) (parseF s') := by
    unfold parseF
    rw [ht.len]
    exact declsR h00 ht _ _ _ (SR.start P)
  rcases hp.two with ⟨e, h1, h2⟩ | ⟨p, p', h1, h2, h3⟩
  · rw [h1, h2]; exact ⟨rfl, (ht.at' e).pos⟩
  · rw [h1, h2]
    exact meaningR h00 h3.decls (bindR h3.decls h3.nodes)

end Go.Proofs.Ytmndgoapkmhglab

/- Plain mathematics: a token that stands nowhere is found just there. -/
namespace Go.Proofs.Ytmndgoapkmhglab

/-- tokens have been used up, and not all. -/
def Fwd (ts : List Tk) (p p' : PS) : Prop := p.next < p'.next ∧ p'.next < ts.length
def ExM (ts : List Tk) (ex : Ex) : Prop := ∀ p r p', p.next < ts.length → ex p = .ok (r, p') → Fwd ts p p'

theorem fwd_adv {ts : List Tk} (ht : TsOk ts) {p : PS} (h : p.next < ts.length) (hk : (p.hd ts).kind ≠ 0 ∨ (p.hd ts).l ≠ []) : Fwd ts p (p.adv ts) := by
  rw [adv_next ht h hk]
  exact ⟨Nat.lt_succ_self _, ht.last h hk⟩
theorem Fwd.trans {ts : List Tk} {p q r : PS} (h : Fwd ts p q) (k : Fwd ts q r) : Fwd ts p r := ⟨Nat.lt_trans h.1 k.1, k.2⟩

theorem insideM {ts : List Tk} (ht : TsOk ts) {ex : Ex} (hx : ExM ts ex) {p p' : PS} {n n' : Nd} (h : p.next < ts.length) (he : insideF ts ex p n = .ok (n', p')) : Fwd ts p p' := by
  unfold insideF at he
  split at he
  · rename_i hl
    have s1 := fwd_adv ht h (.inr (by rw [hl]; decide))
    unfold notF at he
    split at he
    · cases he
    · rename_i e1
      cases he
      exact s1.trans (hx _ _ _ s1.2 e1)
  split at he
  · rename_i hl
    have s1 := fwd_adv ht h (.inr (by rw [hl]; decide))
    unfold choiceF at he
    split at he
    · cases he
    · rename_i e1
      have s2 := hx _ _ _ s1.2 e1
      split at he
      · cases he
      · rename_i e2
        have s3 := hx _ _ _ s2.2 e2
        split at he
        · cases he
        · rename_i e3
          cases he
          exact ((s1.trans s2).trans s3).trans (hx _ _ _ s3.2 e3)
  · unfold infixF at he
    split at he
    · cases he
    · rename_i a p1 e1
      have s1 := hx _ _ _ h e1
      split at he
      · rename_i hl
        have s2 := fwd_adv ht s1.2 (.inr (by rw [hl.2]; decide))
        unfold delayF at he
        split at he
        · cases he
        · rename_i e2
          cases he
          have s3 := hx _ _ _ (by exact s2.2) e2
          exact (s1.trans s2).trans s3
      · unfold infixRest at he
        split at he
        · cases he
        · rename_i op ho
          have s2 := fwd_adv ht s1.2 (.inr (by intro e; rw [e] at ho; simp [opOf] at ho))
          split at he
          · cases he
          · rename_i e2
            cases he
            exact (s1.trans s2).trans (hx _ _ _ s2.2 e2)

theorem bracketM {ts : List Tk} (ht : TsOk ts) {ex : Ex} (hx : ExM ts ex) {p p' : PS} {r : Nat} (h : p.next < ts.length) (hl : (p.hd ts).l = [40]) (he : bracketF ts ex p = .ok (r, p')) : Fwd ts p p' := by
  unfold bracketF at he
  have s1 : Fwd ts p ((p.add ts ndZero).adv ts) := fwd_adv ht (p := p.add ts ndZero) h (.inr (by show (p.hd ts).l ≠ []; rw [hl]; decide))
  split at he
  · cases he
  · rename_i n p2 e2
    have s2 := insideM ht hx (p := { (p.add ts ndZero).adv ts with depth := p.depth + 1 }) s1.2 e2
    split at he
    · cases he
    · rename_i p3 e3
      obtain ⟨rfl, hl3⟩ := take_grow e3
      cases he
      have s3 := fwd_adv ht (p := { p2 with depth := p2.depth - 1, nodes := p2.nodes.set p.nodes.length n }) s2.2 (.inr (by rw [hl3]; decide))
      exact (s1.trans s2).trans s3

theorem exprM {ts : List Tk} (ht : TsOk ts) : ∀ f, ExM ts (exprF ts f) := by
  have hatom : ∀ (p : PS) (br : Except Nat (Nat × PS)) (r : Nat) (p' : PS), p.next < ts.length → ((p.hd ts).l = [40] → ∀ r p', br = .ok (r, p') → Fwd ts p p') → atomF ts p br = .ok (r, p') → Fwd ts p p' := by
    intro p br r p' h hbr he
    have leaf : ∀ n, (p.hd ts).kind ≠ 0 ∨ (p.hd ts).l ≠ [] → Fwd ts p (leafF ts p n).2 := fun n hk => fwd_adv ht (p := p.add ts n) h hk
    unfold atomF at he
    split at he
    · rename_i hl; exact hbr hl _ _ he
    split at he
    · rename_i hl; cases he; exact leaf _ (.inr (by rw [hl]; decide))
    split at he
    · rename_i hl; cases he; exact leaf _ (.inr (by rw [hl]; decide))
    split at he
    · rename_i hl; cases he; exact leaf _ (.inl (by rw [hl]; decide))
    split at he
    · rename_i hl; cases he; exact leaf _ (.inl (by rw [hl]; decide))
    · cases he
  intro f
  induction f with
  | zero => intro p r p' h he; exact hatom p _ r p' h (fun _ _ _ h => by cases h) he
  | succ f ih => intro p r p' h he; exact hatom p _ r p' h (fun hl _ _ e => bracketM ht ih h hl e) he

/-- the words that are no names and no numbers. -/
def kwL : List (List UInt8) := [[40], [41], [59], [61], [43], [45], [42], [47], [60], [38], [124], kIn, kInt, kBool, kAt, kIf, kFby, kNot, kTrue, kFalse]

/-- the same tokens ahead of k, and at k one that stands nowhere. -/
structure CutTs (k : Nat) (ts ts' : List Tk) : Prop where
  ok : TsOk ts
  lt : k < ts.length
  lt' : k < ts'.length
  same : ∀ i, i < k → tkAt ts' i = tkAt ts i
  kind1 : (tkAt ts' k).kind ≠ 1
  kind3 : (tkAt ts' k).kind ≠ 3
  word : kwL.contains (tkAt ts' k).l = false

/-- what became of a part that was read well. -/
def CutTo {α : Type} (k : Nat) (q : PS) (a : α) (y : Except Nat α) : Prop := (q.next ≤ k ∧ y = .ok a) ∨ (k < q.next ∧ y = .error k)
def ExC (k : Nat) (ex ex' : Ex) : Prop := ∀ p r p', p.next ≤ k → ex p = .ok (r, p') → CutTo k p' (r, p') (ex' p)
def ExB (k : Nat) (ex' : Ex) : Prop := ∀ p, p.next = k → ex' p = .error k

section
variable {k : Nat} {ts ts' : List Tk}

theorem CutTs.no (hc : CutTs k ts ts') {l : List UInt8} (h1 : kwL.contains l = true) : (tkAt ts' k).l ≠ l := by
  intro e
  have := hc.word
  rw [e, h1] at this
  cases this
theorem CutTs.noOp (hc : CutTs k ts ts') : opOf (tkAt ts' k).l = none := by
  unfold opOf
  rw [if_neg (hc.no (by decide)), if_neg (hc.no (by decide)), if_neg (hc.no (by decide)), if_neg (hc.no (by decide)), if_neg (hc.no (by decide)), if_neg (hc.no (by decide)), if_neg (hc.no (by decide)), if_neg (hc.no (by decide))]
theorem CutTs.hd (hc : CutTs k ts ts') {p : PS} (h : p.next < k) : p.hd ts' = p.hd ts := hc.same _ h
theorem CutTs.adv (hc : CutTs k ts ts') {p : PS} (h : p.next < k) : p.adv ts' = p.adv ts ∧ (p.adv ts).next = p.next + 1 := by
  have h1 := hc.lt
  have h2 := hc.lt'
  unfold PS.adv
  rw [if_pos (by omega), if_pos (by omega)]
  exact ⟨rfl, rfl⟩
theorem CutTs.add (hc : CutTs k ts ts') {p : PS} (h : p.next < k) (n : Nd) : p.add ts' n = p.add ts n := by
  unfold PS.add
  rw [hc.hd h, hc.same (p.next - 1) (by omega)]
theorem CutTs.take (hc : CutTs k ts ts') {p q : PS} (h : p.next ≤ k) {l : List UInt8} (h1 : l ≠ []) (h2 : kwL.contains l = true) (he : p.take ts l = .ok q) : CutTo k q q (p.take ts' l) := by
  obtain ⟨rfl, hl⟩ := take_grow he
  by_cases hp : p.next < k
  · refine .inl ⟨by rw [(hc.adv hp).2]; omega, ?_⟩
    unfold PS.take
    rw [hc.hd hp, if_pos hl, (hc.adv hp).1]
  · have e : p.next = k := by omega
    have hf := fwd_adv hc.ok (p := p) (by rw [e]; exact hc.lt) (.inr (by rw [hl]; exact h1))
    refine .inr ⟨by rw [← e]; exact hf.1, ?_⟩
    unfold PS.take
    rw [if_neg (by show (tkAt ts' p.next).l ≠ l; rw [e]; exact hc.no h2), e]

theorem insideB (hc : CutTs k ts ts') {ex' : Ex} (hb : ExB k ex') {p : PS} {n : Nd} (h : p.next = k) : insideF ts' ex' p n = .error k := by
  unfold insideF
  have hh : p.hd ts' = tkAt ts' k := by unfold PS.hd; rw [h]
  rw [hh, if_neg (hc.no (by decide)), if_neg (hc.no (by decide))]
  unfold infixF
  rw [hb p h]

theorem insideC (hc : CutTs k ts ts') {ex ex' : Ex} (hx : ExC k ex ex') (hb : ExB k ex') (hm : ExM ts ex) {p p' : PS} {n n' : Nd} (hp : p.next ≤ k) (he : insideF ts ex p n = .ok (n', p')) : CutTo k p' (n', p') (insideF ts' ex' p n) := by
  have hlt := hc.lt
  have hf := insideM hc.ok hm (p := p) (by omega) he
  by_cases hpk' : p.next = k
  · exact .inr ⟨by have := hf.1; omega, insideB hc hb hpk'⟩
  have hpk : p.next < k := by omega
  obtain ⟨ha1, ha2⟩ := hc.adv hpk
  have hh := hc.hd hpk
  unfold insideF at he ⊢
  rw [hh]
  split at he
  · rename_i hl
    rw [if_pos hl]
    unfold notF at he ⊢
    rw [ha1]
    split at he
    · cases he
    · rename_i a p1 e1
      cases he
      rcases hx _ _ _ (by omega) e1 with ⟨h1, h2⟩ | ⟨h1, h2⟩
      · rw [h2]; exact .inl ⟨h1, rfl⟩
      · rw [h2]; exact .inr ⟨h1, rfl⟩
  rename_i hl0
  rw [if_neg hl0]
  split at he
  · rename_i hl
    rw [if_pos hl]
    unfold choiceF at he ⊢
    rw [ha1]
    split at he
    · cases he
    · rename_i a p1 e1
      have hlt1 := hm _ _ _ (by omega) e1
      split at he
      · cases he
      · rename_i b p2 e2
        have hlt2 := hm _ _ _ hlt1.2 e2
        split at he
        · cases he
        · rename_i c p3 e3
          have hlt3 := hm _ _ _ hlt2.2 e3
          cases he
          have a1 := hlt1.1
          have a2 := hlt2.1
          have a3 := hlt3.1
          rcases hx _ _ _ (by omega) e1 with ⟨h1, h2⟩ | ⟨h1, h2⟩
          · rw [h2]
            simp only
            rcases hx _ _ _ h1 e2 with ⟨h3, h4⟩ | ⟨h3, h4⟩
            · rw [h4]
              simp only
              rcases hx _ _ _ h3 e3 with ⟨h5, h6⟩ | ⟨h5, h6⟩
              · rw [h6]; exact .inl ⟨h5, rfl⟩
              · rw [h6]; exact .inr ⟨h5, rfl⟩
            · rw [h4]; exact .inr ⟨by omega, rfl⟩
          · rw [h2]; exact .inr ⟨by omega, rfl⟩
  rename_i hl1
  rw [if_neg hl1]
  unfold infixF at he ⊢
  split at he
  · cases he
  · rename_i a p1 e1
    have hlt1 := hm _ _ _ (by omega) e1
    have a1 := hlt1.1
    split at he
    · rename_i hl
      have hlt2 := fwd_adv hc.ok hlt1.2 (.inr (by rw [hl.2]; decide))
      have a2 := hlt2.1
      unfold delayF at he
      split at he
      · cases he
      · rename_i b p2 e2
        have hlt3 := hm { p1.adv ts with delays := (p1.adv ts).delays + 1 } _ _ hlt2.2 e2
        have a3 : (p1.adv ts).next < p2.next := hlt3.1
        cases he
        show CutTo k { p2 with delays := p2.delays - 1 } _ _
        rcases hx _ _ _ hp e1 with ⟨h1, h2⟩ | ⟨h1, h2⟩
        · rw [h2]
          simp only
          by_cases hk1 : p1.next < k
          · obtain ⟨b1, b2⟩ := hc.adv hk1
            rw [hc.hd hk1, if_pos hl, b1]
            unfold delayF
            rcases hx _ _ _ (by show (p1.adv ts).next ≤ k; omega) e2 with ⟨h5, h6⟩ | ⟨h5, h6⟩
            · rw [h6]; exact .inl ⟨h5, rfl⟩
            · rw [h6]; exact .inr ⟨h5, rfl⟩
          · have e : p1.next = k := by omega
            have hh' : p1.hd ts' = tkAt ts' k := by unfold PS.hd; rw [e]
            refine .inr ⟨by show k < p2.next; omega, ?_⟩
            rw [hh', if_neg (fun x => hc.no (by decide) x.2)]
            unfold infixRest
            rw [hh']
            have ho := hc.noOp
            rw [ho, e]
        · rw [h2]; exact .inr ⟨by show k < p2.next; omega, rfl⟩
    · rename_i hl
      unfold infixRest at he
      split at he
      · cases he
      · rename_i op ho
        have hlt2 := fwd_adv hc.ok hlt1.2 (.inr (by intro e; rw [e] at ho; simp [opOf] at ho))
        have a2 := hlt2.1
        split at he
        · cases he
        · rename_i b p2 e2
          have hlt3 := hm _ _ _ hlt2.2 e2
          have a3 : (p1.adv ts).next < p2.next := hlt3.1
          cases he
          rcases hx _ _ _ hp e1 with ⟨h1, h2⟩ | ⟨h1, h2⟩
          · rw [h2]
            simp only
            by_cases hk1 : p1.next < k
            · obtain ⟨b1, b2⟩ := hc.adv hk1
              rw [hc.hd hk1, if_neg hl]
              unfold infixRest
              rw [hc.hd hk1, ho, b1]
              simp only
              rcases hx _ _ _ (by omega) e2 with ⟨h5, h6⟩ | ⟨h5, h6⟩
              · rw [h6]; exact .inl ⟨h5, rfl⟩
              · rw [h6]; exact .inr ⟨h5, rfl⟩
            · have e : p1.next = k := by omega
              have hh' : p1.hd ts' = tkAt ts' k := by unfold PS.hd; rw [e]
              refine .inr ⟨by omega, ?_⟩
              rw [hh', if_neg (fun x => hc.no (by decide) x.2)]
              unfold infixRest
              rw [hh']
              have ho := hc.noOp
              rw [ho, e]
          · rw [h2]; exact .inr ⟨by omega, rfl⟩

theorem bracketC (hc : CutTs k ts ts') {ex ex' : Ex} (hx : ExC k ex ex') (hb : ExB k ex') (hm : ExM ts ex) {p p' : PS} {r : Nat} (hp : p.next < k) (he : bracketF ts ex p = .ok (r, p')) : CutTo k p' (r, p') (bracketF ts' ex' p) := by
  have hlt := hc.lt
  have hadd := hc.add hp ndZero
  obtain ⟨b1, b2⟩ := hc.adv (p := p.add ts ndZero) hp
  unfold bracketF at he ⊢
  rw [hadd, b1]
  split at he
  · cases he
  · rename_i n p2 e2
    have hle : ({ (p.add ts ndZero).adv ts with depth := p.depth + 1 } : PS).next ≤ k := by show ((p.add ts ndZero).adv ts).next ≤ k; rw [b2]; exact hp
    have hf := insideM hc.ok hm (p := { (p.add ts ndZero).adv ts with depth := p.depth + 1 }) (by omega) e2
    split at he
    · cases he
    · rename_i p3 e3
      cases he
      have hf3 : p2.next < p'.next := by
        obtain ⟨rfl, hl3⟩ := take_grow e3
        exact (fwd_adv hc.ok (p := { p2 with depth := p2.depth - 1, nodes := p2.nodes.set p.nodes.length n }) hf.2 (.inr (by rw [hl3]; decide))).1
      rcases insideC hc hx hb hm hle e2 with ⟨h1, h2⟩ | ⟨h1, h2⟩
      · rw [h2]
        simp only
        rcases hc.take (p := { p2 with depth := p2.depth - 1, nodes := p2.nodes.set p.nodes.length n }) h1 (by decide) (by decide) e3 with ⟨h3, h4⟩ | ⟨h3, h4⟩
        · rw [h4]; exact .inl ⟨h3, rfl⟩
        · rw [h4]; exact .inr ⟨h3, rfl⟩
      · rw [h2]; exact .inr ⟨by omega, rfl⟩

theorem exprB (hc : CutTs k ts ts') : ∀ f, ExB k (exprF ts' f) := by
  intro f p h
  have hat : ∀ br, atomF ts' p br = .error k := by
    intro br
    have hh : p.hd ts' = tkAt ts' k := by unfold PS.hd; rw [h]
    unfold atomF
    rw [hh, if_neg (hc.no (by decide)), if_neg (hc.no (by decide)), if_neg (hc.no (by decide)), if_neg hc.kind3, if_neg hc.kind1, h]
  cases f with
  | zero => exact hat _
  | succ f => exact hat _

theorem exprC (hc : CutTs k ts ts') : ∀ f, ExC k (exprF ts f) (exprF ts' f) := by
  have hatom : ∀ (p : PS) (br br' : Except Nat (Nat × PS)) (r : Nat) (p' : PS), p.next < k → ((p.hd ts).l = [40] → ∀ r p', br = .ok (r, p') → CutTo k p' (r, p') br') → atomF ts p br = .ok (r, p') → CutTo k p' (r, p') (atomF ts' p br') := by
    intro p br br' r p' hp hbr he
    have leaf : ∀ n, CutTo k (leafF ts p n).2 (leafF ts p n) (.ok (leafF ts' p n)) := by
      intro n
      obtain ⟨b1, b2⟩ := hc.adv (p := p.add ts n) hp
      have e : leafF ts' p n = leafF ts p n := by unfold leafF; rw [hc.add hp, b1]
      rw [e]
      refine .inl ⟨?_, rfl⟩
      show ((p.add ts n).adv ts).next ≤ k
      rw [b2]; exact hp
    unfold atomF at he ⊢
    rw [hc.hd hp]
    split at he
    · rename_i hl; rw [if_pos hl]; exact hbr hl _ _ he
    rename_i h1; rw [if_neg h1]
    split at he
    · rename_i hl; rw [if_pos hl]; cases he; exact leaf _
    rename_i h1; rw [if_neg h1]
    split at he
    · rename_i hl; rw [if_pos hl]; cases he; exact leaf _
    rename_i h1; rw [if_neg h1]
    split at he
    · rename_i hl; rw [if_pos hl]; cases he; exact leaf _
    rename_i h1; rw [if_neg h1]
    split at he
    · rename_i hl; rw [if_pos hl]; cases he; exact leaf _
    · cases he
  intro f
  induction f with
  | zero =>
    intro p r p' hp he
    by_cases e : p.next = k
    · exact .inr ⟨by have := exprM hc.ok 0 p r p' (by have := hc.lt; omega) he; have := this.1; omega, exprB hc 0 p e⟩
    · exact hatom p _ _ r p' (by omega) (fun _ _ _ h => by cases h) he
  | succ f ih =>
    intro p r p' hp he
    by_cases e : p.next = k
    · exact .inr ⟨by have := exprM hc.ok (f + 1) p r p' (by have := hc.lt; omega) he; have := this.1; omega, exprB hc (f + 1) p e⟩
    · exact hatom p _ _ r p' (by omega) (fun _ _ _ h => bracketC hc ih (exprB hc f) (exprM hc.ok f) (by omega) h) he

end
end Go.Proofs.Ytmndgoapkmhglab

/- Plain mathematics: declarations, and a token that stands nowhere. -/
namespace Go.Proofs.Ytmndgoapkmhglab

theorem place_fwd {ts : List Tk} (ht : TsOk ts) {p p' : PS} {r : Nat} (h : p.next < ts.length) (he : placeF ts p = .ok (r, p')) : Fwd ts p p' := by
  unfold placeF at he
  split at he
  · rename_i hk; cases he; exact fwd_adv ht h (.inl (by rw [hk.1]; decide))
  · cases he

theorem take_fwd {ts : List Tk} (ht : TsOk ts) {p p' : PS} {l : List UInt8} (hl : l ≠ []) (h : p.next < ts.length) (he : p.take ts l = .ok p') : Fwd ts p p' := by
  obtain ⟨rfl, e⟩ := take_grow he
  exact fwd_adv ht h (.inr (by rw [e]; exact hl))

/-- a declaration ends behind a ; -/
theorem take_prev {ts : List Tk} (ht : TsOk ts) {p p' : PS} {l : List UInt8} (hl : l ≠ []) (h : p.next < ts.length) (he : p.take ts l = .ok p') : (tkAt ts (p'.next - 1)).l = l := by
  obtain ⟨rfl, e⟩ := take_grow he
  rw [adv_next ht h (.inr (by rw [e]; exact hl))]
  exact e

theorem declarationM {ts : List Tk} (ht : TsOk ts) {p p' : PS} (h : p.next < ts.length) (he : declarationF ts p = .ok p') : Fwd ts p p' ∧ (tkAt ts (p'.next - 1)).l = [59] := by
  have inp : (p.hd ts).l ≠ [] → inputF ts p = .ok p' → Fwd ts p p' ∧ (tkAt ts (p'.next - 1)).l = [59] := by
    intro hl he
    have s1 := fwd_adv ht h (.inr hl)
    unfold inputF at he
    split at he
    · rename_i hk
      have s2 := fwd_adv ht s1.2 (.inl (by rw [hk]; decide))
      have s3 := take_fwd ht (p := ((p.adv ts).adv ts).declare _) (by decide) s2.2 he
      exact ⟨(s1.trans s2).trans s3, take_prev ht (p := ((p.adv ts).adv ts).declare _) (by decide) s2.2 he⟩
    · cases he
  have eqn : ∀ kind, (p.hd ts).l ≠ [] → equationF ts kind p = .ok p' → Fwd ts p p' ∧ (tkAt ts (p'.next - 1)).l = [59] := by
    intro kind hl he
    have s1 := fwd_adv ht h (.inr hl)
    unfold equationF at he
    split at he
    · rename_i hk
      have s2 := fwd_adv ht s1.2 (.inl (by rw [hk]; decide))
      split at he
      · cases he
      rename_i p3 e3
      have s3 := take_fwd ht (by decide) s2.2 e3
      split at he
      · cases he
      rename_i pl p4 e4
      have s4 := place_fwd ht s3.2 e4
      split at he
      · cases he
      rename_i p5 e5
      have s5 := take_fwd ht (by decide) s4.2 e5
      split at he
      · cases he
      rename_i r p6 e6
      have s6 := exprM ht 16 _ _ _ s5.2 e6
      have s7 := take_fwd ht (p := p6.declare _) (by decide) s6.2 he
      exact ⟨(((((s1.trans s2).trans s3).trans s4).trans s5).trans s6).trans s7, take_prev ht (p := p6.declare _) (by decide) s6.2 he⟩
    · cases he
  unfold declarationF at he
  split at he
  · rename_i hl; exact inp (by rw [hl]; decide) he
  split at he
  · rename_i hl; exact eqn 1 (by rw [hl]; decide) he
  split at he
  · rename_i hl; exact eqn 2 (by rw [hl]; decide) he
  · cases he

section
variable {k : Nat} {ts ts' : List Tk}

theorem CutTs.place (hc : CutTs k ts ts') {p p' : PS} {r : Nat} (h : p.next ≤ k) (he : placeF ts p = .ok (r, p')) : CutTo k p' (r, p') (placeF ts' p) := by
  have hf := place_fwd hc.ok (by have := hc.lt; omega) he
  by_cases hp : p.next = k
  · refine .inr ⟨by have := hf.1; omega, ?_⟩
    have hh : p.hd ts' = tkAt ts' k := by unfold PS.hd; rw [hp]
    unfold placeF
    rw [hh, if_neg (fun x => hc.kind3 x.1), hp]
  · have hp' : p.next < k := by omega
    unfold placeF at he ⊢
    rw [hc.hd hp']
    split at he
    · rename_i hk
      cases he
      rw [if_pos hk, (hc.adv hp').1]
      exact .inl ⟨by rw [(hc.adv hp').2]; omega, rfl⟩
    · cases he

theorem declarationB (hc : CutTs k ts ts') {p : PS} (h : p.next = k) : declarationF ts' p = .error k := by
  have hh : p.hd ts' = tkAt ts' k := by unfold PS.hd; rw [h]
  unfold declarationF
  rw [hh, if_neg (hc.no (by decide)), if_neg (hc.no (by decide)), if_neg (hc.no (by decide)), h]

theorem declarationC (hc : CutTs k ts ts') {p p' : PS} (hp : p.next ≤ k) (he : declarationF ts p = .ok p') : CutTo k p' p' (declarationF ts' p) := by
  have hlt := hc.lt
  have hf := (declarationM hc.ok (by omega) he).1
  by_cases hpk' : p.next = k
  · exact .inr ⟨by have := hf.1; omega, declarationB hc hpk'⟩
  have hpk : p.next < k := by omega
  obtain ⟨ha1, ha2⟩ := hc.adv hpk
  have hh := hc.hd hpk
  have hq : (p.adv ts).next ≤ k := by omega
  -- the name
  have name : ∀ (F F' : Except Nat PS), (((p.adv ts).hd ts).kind = 1) → ((p.adv ts).next < k → CutTo k p' p' F') → CutTo k p' p' (if ((p.adv ts).hd ts').kind = 1 then F' else .error (p.adv ts).next) := by
    intro F F' hk hF
    by_cases e : (p.adv ts).next = k
    · have hh' : (p.adv ts).hd ts' = tkAt ts' k := by unfold PS.hd; rw [e]
      rw [hh', if_neg hc.kind1, e]
      refine .inr ⟨?_, rfl⟩
      -- more than the name was used up
      have s1 := ha2
      unfold declarationF at he
      have hmore : (p.adv ts).next < p'.next := by
        split at he
        · unfold inputF at he
          rw [if_pos hk] at he
          have s2 := fwd_adv hc.ok (p := p.adv ts) (by omega) (.inl (by rw [hk]; decide))
          have s3 := take_fwd hc.ok (p := ((p.adv ts).adv ts).declare _) (by decide) s2.2 he
          exact (s2.trans s3).1
        have eqn : ∀ kind, equationF ts kind p = .ok p' → (p.adv ts).next < p'.next := by
          intro kind he
          unfold equationF at he
          rw [if_pos hk] at he
          have s2 := fwd_adv hc.ok (p := p.adv ts) (by omega) (.inl (by rw [hk]; decide))
          split at he
          · cases he
          rename_i p3 e3
          have s3 := take_fwd hc.ok (by decide) s2.2 e3
          split at he
          · cases he
          rename_i pl p4 e4
          have s4 := place_fwd hc.ok s3.2 e4
          split at he
          · cases he
          rename_i p5 e5
          have s5 := take_fwd hc.ok (by decide) s4.2 e5
          split at he
          · cases he
          rename_i r p6 e6
          have s6 := exprM hc.ok 16 _ _ _ s5.2 e6
          have s7 := take_fwd hc.ok (p := p6.declare _) (by decide) s6.2 he
          exact (((((s2.trans s3).trans s4).trans s5).trans s6).trans s7).1
        split at he
        · exact eqn _ he
        split at he
        · exact eqn _ he
        · cases he
      omega
    · have hk' : (p.adv ts).next < k := by omega
      rw [hc.hd hk', if_pos hk]
      exact hF hk'
  have eqn : ∀ kind, equationF ts kind p = .ok p' → CutTo k p' p' (equationF ts' kind p) := by
    intro kind he
    unfold equationF at he ⊢
    rw [ha1]
    split at he
    · rename_i hk
      refine name (.error 0) _ hk ?_
      intro hk'
      obtain ⟨b1, b2⟩ := hc.adv hk'
      have s2 : Fwd ts (p.adv ts) ((p.adv ts).adv ts) := fwd_adv hc.ok (by omega) (.inl (by rw [hk]; decide))
      rw [b1, hc.hd hk']
      split at he
      · cases he
      rename_i p3 e3
      have s3 := take_fwd hc.ok (by decide) s2.2 e3
      split at he
      · cases he
      rename_i pl p4 e4
      have s4 := place_fwd hc.ok s3.2 e4
      split at he
      · cases he
      rename_i p5 e5
      have s5 := take_fwd hc.ok (by decide) s4.2 e5
      split at he
      · cases he
      rename_i r p6 e6
      have s6 := exprM hc.ok 16 _ _ _ s5.2 e6
      have s7 : p6.next < p'.next := (take_fwd hc.ok (p := p6.declare _) (by decide) s6.2 he).1
      have t3 := s3.1
      have t4 := s4.1
      have t5 := s5.1
      have t6 := s6.1
      rcases hc.take (by omega) (by decide) (by decide) e3 with ⟨h1, h2⟩ | ⟨h1, h2⟩
      · rw [h2]
        simp only
        rcases hc.place h1 e4 with ⟨h3, h4⟩ | ⟨h3, h4⟩
        · rw [h4]
          simp only
          rcases hc.take h3 (by decide) (by decide) e5 with ⟨h5, h6⟩ | ⟨h5, h6⟩
          · rw [h6]
            simp only
            rcases exprC hc 16 _ _ _ h5 e6 with ⟨h7, h8⟩ | ⟨h7, h8⟩
            · rw [h8]
              simp only
              exact hc.take (p := p6.declare _) h7 (by decide) (by decide) he
            · rw [h8]; exact .inr ⟨by omega, rfl⟩
          · rw [h6]; exact .inr ⟨by omega, rfl⟩
        · rw [h4]; exact .inr ⟨by omega, rfl⟩
      · rw [h2]; exact .inr ⟨by omega, rfl⟩
    · cases he
  unfold declarationF at he ⊢
  rw [hh]
  split at he
  · rename_i hl
    rw [if_pos hl]
    unfold inputF at he ⊢
    rw [ha1]
    split at he
    · rename_i hk
      refine name (.error 0) _ hk ?_
      intro hk'
      obtain ⟨b1, b2⟩ := hc.adv hk'
      rw [b1, hc.hd hk']
      exact hc.take (p := ((p.adv ts).adv ts).declare _) (by show ((p.adv ts).adv ts).next ≤ k; omega) (by decide) (by decide) he
    · cases he
  rename_i hl0; rw [if_neg hl0]
  split at he
  · rename_i hl; rw [if_pos hl]; exact eqn _ he
  rename_i hl1; rw [if_neg hl1]
  split at he
  · rename_i hl; rw [if_pos hl]; exact eqn _ he
  · cases he

theorem declsC (hc : CutTs k ts ts') (hdis : (tkAt ts' k).kind ≠ 0 ∨ ((tkAt ts k).kind ≠ 0 ∧ (tkAt ts k).l = [59])) : ∀ f f' p p', p.next ≤ k → ts'.length ≤ f' + p.next → declsF ts f p = .ok p' → (p'.hd ts).kind = 0 → k ≤ p'.next → declsF ts' f' p = .error k := by
  have hlt' := hc.lt'
  have hlt := hc.lt
  have atK : ∀ f' p, p.next = k → (tkAt ts' k).kind ≠ 0 → ts'.length ≤ f' + p.next → declsF ts' f' p = .error k := by
    intro f' p e hk hf
    cases f' with
    | zero => omega
    | succ f' =>
      have hh : p.hd ts' = tkAt ts' k := by unfold PS.hd; rw [e]
      unfold declsF
      rw [hh, if_neg hk, declarationB hc e]
  intro f
  induction f with
  | zero =>
    intro f' p p' hp hf he hk hkp
    cases he
    have e : p.next = k := by omega
    rcases hdis with h | ⟨h, _⟩
    · exact atK f' p e h hf
    · exact absurd hk (by show (tkAt ts p.next).kind ≠ 0; rw [e]; exact h)
  | succ f ih =>
    intro f' p p' hp hf he hk hkp
    unfold declsF at he
    split at he
    · rename_i hz
      cases he
      have e : p.next = k := by omega
      rcases hdis with h | ⟨h, _⟩
      · exact atK f' p e h hf
      · exact absurd hk (by show (tkAt ts p.next).kind ≠ 0; rw [e]; exact h)
    · rename_i hz
      split at he
      · cases he
      · rename_i q e1
        have s1 := (declarationM hc.ok (by omega) e1).1
        have t1 := s1.1
        by_cases e : p.next = k
        · rcases hdis with h | ⟨_, h⟩
          · exact atK f' p e h hf
          · exfalso
            have hh : p.hd ts = tkAt ts k := by unfold PS.hd; rw [e]
            unfold declarationF at e1
            rw [hh, h, if_neg (by decide), if_neg (by decide), if_neg (by decide)] at e1
            cases e1
        · have hpk : p.next < k := by omega
          cases f' with
          | zero => omega
          | succ f' =>
            unfold declsF
            rw [hc.hd hpk, if_neg hz]
            rcases declarationC hc hp e1 with ⟨h1, h2⟩ | ⟨h1, h2⟩
            · rw [h2]
              exact ih f' q p' h1 (by omega) he hk hkp
            · rw [h2]

theorem declsEnd (ht : TsOk ts) : ∀ f p p', p.next < ts.length → ts.length ≤ f + p.next → declsF ts f p = .ok p' → (p'.hd ts).kind = 0 ∧ p'.next < ts.length ∧ (p' = p ∨ (tkAt ts (p'.next - 1)).l = [59]) := by
  intro f
  induction f with
  | zero => intro p p' h hf he; omega
  | succ f ih =>
    intro p p' h hf he
    unfold declsF at he
    split at he
    · rename_i hz; cases he; exact ⟨hz, h, .inl rfl⟩
    · split at he
      · cases he
      · rename_i q e1
        obtain ⟨s1, s2⟩ := declarationM ht h e1
        have t1 := s1.1
        obtain ⟨h1, h2, h3⟩ := ih q p' s1.2 (by omega) he
        refine ⟨h1, h2, .inr ?_⟩
        rcases h3 with rfl | h3
        · exact s2
        · exact h3
end
end Go.Proofs.Ytmndgoapkmhglab

namespace Go.Proofs.Ytmndgoapkmhglab
open Go.RowKit
attribute [local go_sem ↓] Go.wp_at_zero Go.wp_at_succ

set_option maxHeartbeats 1000000 in
theorem rkept_any (t : ByteArray) (w : World) :
    Calls Try.prog 114 #[.string t] w fun e w' => e = .returned (.bool (keptL.contains t.data.toList)) ∧ w = w' := by
  by_cases hk : keptL.contains t.data.toList = true
  · have HF := hide hk
    have hc : t.data.toList = kIn ∨ t.data.toList = kInt ∨ t.data.toList = kBool ∨ t.data.toList = kAt ∨ t.data.toList = kIf ∨ t.data.toList = kFby ∨ t.data.toList = kNot ∨ t.data.toList = kTrue ∨ t.data.toList = kFalse := by
      simpa [keptL] using hk
    clear hk
    rcases hc with h | h | h | h | h | h | h | h | h
    all_goals
      have et := str_yes h
      simp only [kIn, kInt, kBool, kAt, kIf, kFby, kNot, kTrue, kFalse] at et
      clear h
      go_enter Try.func114, Try.ntmps114
      go_wp2
      go_ret
      exact ⟨by rw [HF.out]; rfl, rfl⟩
  · have hn : ∀ l ∈ keptL, (t.toList == l) = false := fun l hl => str_no (by rintro rfl; exact hk (by simpa using hl))
    have HF : Hid (keptL.contains t.data.toList = false) := hide (by simpa using hk)
    have n1 := hn kIn (by simp [keptL])
    have n2 := hn kInt (by simp [keptL])
    have n3 := hn kBool (by simp [keptL])
    have n4 := hn kAt (by simp [keptL])
    have n5 := hn kIf (by simp [keptL])
    have n6 := hn kFby (by simp [keptL])
    have n7 := hn kNot (by simp [keptL])
    have n8 := hn kTrue (by simp [keptL])
    have n9 := hn kFalse (by simp [keptL])
    simp only [kIn, kInt, kBool, kAt, kIf, kFby, kNot, kTrue, kFalse] at n1 n2 n3 n4 n5 n6 n7 n8 n9
    clear hn hk
    go_enter Try.func114, Try.ntmps114
    go_wp2
    go_ret
    exact ⟨by rw [HF.out]; rfl, rfl⟩

theorem rcl_inj {a b : Nat} (ha : a ≤ 4) (hb : b ≤ 4) : ((rcl a : Int) == (rcl b : Int)) = (a == b) := by
  have h1 : a = 0 ∨ a = 1 ∨ a = 2 ∨ a = 3 ∨ a = 4 := by omega
  have h2 : b = 0 ∨ b = 1 ∨ b = 2 ∨ b = 3 ∨ b = 4 := by omega
  rcases h1 with rfl | rfl | rfl | rfl | rfl <;> rcases h2 with rfl | rfl | rfl | rfl | rfl <;> rfl

abbrev RTk.val (t : RTk) : Value := .agg #[.int .u8 (t.c : Int), .string t.word, .int .i64 (t.pos : Int), .int .i64 (t.n : Int)]

/-- what the number's own loop has reckoned. -/
def valTo (s : ByteArray) (k j : Nat) : Nat := valN (s.extract k (endOf s k)).data.toList j

end Go.Proofs.Ytmndgoapkmhglab
