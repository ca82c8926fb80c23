import Derived.Test.YtbmhafagdchjfaaGoodP
/- Plain mathematics: texts whose tokens are alike are judged alike. -/
namespace Go.Proofs.Ytbmhafagdchjfaa

def All2 {α β : Type} (R : α → β → Prop) : List α → List β → Prop
  | [], [] => True
  | a :: l, b :: m => R a b ∧ All2 R l m
  | _, _ => False

theorem All2.len {α β : Type} {R : α → β → Prop} : ∀ {l : List α} {m : List β}, All2 R l m → m.length = l.length := by
  intro l
  induction l with
  | nil => intro m h; cases m with
    | nil => rfl
    | cons b m => exact h.elim
  | cons a l ih => intro m h; cases m with
    | nil => exact h.elim
    | cons b m => simp [ih h.2]

theorem All2.app {α β : Type} {R : α → β → Prop} : ∀ {l : List α} {m : List β} {l' : List α} {m' : List β}, All2 R l m → All2 R l' m' → All2 R (l ++ l') (m ++ m') := by
  intro l
  induction l with
  | nil => intro m l' m' h h'; cases m with
    | nil => exact h'
    | cons b m => exact h.elim
  | cons a l ih => intro m l' m' h h'; cases m with
    | nil => exact h.elim
    | cons b m => exact ⟨h.1, ih h.2 h'⟩

theorem All2.set {α β : Type} {R : α → β → Prop} {a : α} {b : β} (hr : R a b) : ∀ {l : List α} {m : List β} (i : Nat), All2 R l m → All2 R (l.set i a) (m.set i b) := by
  intro l
  induction l with
  | nil => intro m i h; cases m with
    | nil => simpa using h
    | cons b m => exact h.elim
  | cons c l ih => intro m i h; cases m with
    | nil => exact h.elim
    | cons d m => cases i with
      | zero => exact ⟨hr, h.2⟩
      | succ i => exact ⟨h.1, ih i h.2⟩

theorem All2.getD {α β : Type} {R : α → β → Prop} {a : α} {b : β} (hr : R a b) : ∀ {l : List α} {m : List β} (i : Nat), All2 R l m → R (l.getD i a) (m.getD i b) := by
  intro l
  induction l with
  | nil => intro m i h; cases m with
    | nil => simpa using hr
    | cons b m => exact h.elim
  | cons c l ih => intro m i h; cases m with
    | nil => exact h.elim
    | cons d m => cases i with
      | zero => exact h.1
      | succ i => simpa using ih i h.2

theorem All2.take {α β : Type} {R : α → β → Prop} : ∀ {l : List α} {m : List β} (i : Nat), All2 R l m → All2 R (l.take i) (m.take i) := by
  intro l
  induction l with
  | nil => intro m i h; cases m with
    | nil => simpa using h
    | cons b m => exact h.elim
  | cons c l ih => intro m i h; cases m with
    | nil => exact h.elim
    | cons d m => cases i with
      | zero => exact trivial
      | succ i => exact ⟨h.1, ih i h.2⟩

theorem All2.drop {α β : Type} {R : α → β → Prop} : ∀ {l : List α} {m : List β} (i : Nat), All2 R l m → All2 R (l.drop i) (m.drop i) := by
  intro l
  induction l with
  | nil => intro m i h; cases m with
    | nil => simpa using h
    | cons b m => exact h.elim
  | cons c l ih => intro m i h; cases m with
    | nil => exact h.elim
    | cons d m => cases i with
      | zero => exact h
      | succ i => exact ih i h.2

theorem All2.filter {α β : Type} {R : α → β → Prop} {f : α → Bool} {g : β → Bool} (hfg : ∀ a b, R a b → g b = f a) : ∀ {l : List α} {m : List β}, All2 R l m → All2 R (l.filter f) (m.filter g) := by
  intro l
  induction l with
  | nil => intro m h; cases m with
    | nil => exact h
    | cons b m => exact h.elim
  | cons c l ih => intro m h; cases m with
    | nil => exact h.elim
    | cons d m =>
      rw [List.filter_cons, List.filter_cons, hfg c d h.1]
      split
      · exact ⟨h.1, ih h.2⟩
      · exact ih h.2

theorem All2.map {α β γ δ : Type} {R : α → β → Prop} {S : γ → δ → Prop} {f : α → γ} {g : β → δ} (hfg : ∀ a b, R a b → S (f a) (g b)) : ∀ {l : List α} {m : List β}, All2 R l m → All2 S (l.map f) (m.map g) := by
  intro l
  induction l with
  | nil => intro m h; cases m with
    | nil => exact h
    | cons b m => exact h.elim
  | cons c l ih => intro m h; cases m with
    | nil => exact h.elim
    | cons d m => exact ⟨hfg c d h.1, ih h.2⟩

/-- alike: all but the place in the text. -/
structure TR (P : Nat → Nat → Prop) (t t' : Tk) : Prop where
  kind : t'.kind = t.kind
  pos : P t.pos t'.pos
  val : t.kind = 3 → valOf t'.l = valOf t.l
  dig : t.kind = 3 → (∀ c ∈ t.l, 48 ≤ c.toNat ∧ c.toNat ≤ 57) ∧ (∀ c ∈ t'.l, 48 ≤ c.toNat ∧ c.toNat ≤ 57)
  text : t.kind ≠ 3 → t'.text = t.text

def NR (P : Nat → Nat → Prop) (n n' : Nd) : Prop := n' = { n with pos := n'.pos } ∧ P n.pos n'.pos
def DR (P : Nat → Nat → Prop) (d d' : Dc) : Prop := d' = { d with pos := d'.pos } ∧ P d.pos d'.pos

/-- a word that is no number. -/
def wordL (l : List UInt8) : Bool := l.any fun c => decide (c.toNat < 48) || decide (57 < c.toNat)

theorem TR.same {P : Nat → Nat → Prop} {t t' : Tk} (h : TR P t t') {l : List UInt8} (hl : wordL l = true) : (t'.l = l) = (t.l = l) := by
  by_cases hk : t.kind = 3
  · obtain ⟨h1, h2⟩ := h.dig hk
    have no : ∀ m : List UInt8, (∀ c ∈ m, 48 ≤ c.toNat ∧ c.toNat ≤ 57) → m ≠ l := by
      intro m hm e
      subst e
      unfold wordL at hl
      rw [List.any_eq_true] at hl
      obtain ⟨c, hc, hd⟩ := hl
      have := hm c hc
      simp at hd
      omega
    exact propext ⟨fun e => absurd e (no _ h2), fun e => absurd e (no _ h1)⟩
  · unfold Tk.l
    rw [h.text hk]

theorem TR.op {P : Nat → Nat → Prop} {t t' : Tk} (h : TR P t t') : opOf t'.l = opOf t.l := by
  unfold opOf
  simp only [h.same (l := [43]) (by decide), h.same (l := [45]) (by decide), h.same (l := [42]) (by decide), h.same (l := [47]) (by decide), h.same (l := [60]) (by decide), h.same (l := [61]) (by decide), h.same (l := [38]) (by decide), h.same (l := [124]) (by decide)]

structure TsR (P : Nat → Nat → Prop) (ts ts' : List Tk) : Prop where
  len : ts'.length = ts.length
  at' : ∀ i, TR P (tkAt ts i) (tkAt ts' i)

structure SR (P : Nat → Nat → Prop) (p p' : PS) : Prop where
  next : p'.next = p.next
  depth : p'.depth = p.depth
  delays : p'.delays = p.delays
  decls : All2 (DR P) p.decls p'.decls
  nodes : All2 (NR P) p.nodes p'.nodes

def RR {α β : Type} (R : α → β → Prop) : Except Nat α → Except Nat β → Prop
  | .ok a, .ok b => R a b
  | .error j, .error k => k = j
  | _, _ => False

theorem RR.two {α β : Type} {R : α → β → Prop} {x : Except Nat α} {y : Except Nat β} (h : RR R x y) : (∃ e, x = .error e ∧ y = .error e) ∨ (∃ a b, x = .ok a ∧ y = .ok b ∧ R a b) := by
  cases x with
  | error e => cases y with
    | error f => exact .inl ⟨e, rfl, by rw [show f = e from h]⟩
    | ok b => exact h.elim
  | ok a => cases y with
    | error f => exact h.elim
    | ok b => exact .inr ⟨a, b, rfl, rfl, h⟩

theorem SR.hd {P : Nat → Nat → Prop} {ts ts' : List Tk} {p p' : PS} (ht : TsR P ts ts') (h : SR P p p') : TR P (p.hd ts) (p'.hd ts') := by
  unfold PS.hd; rw [h.next]; exact ht.at' _
theorem SR.adv {P : Nat → Nat → Prop} {ts ts' : List Tk} {p p' : PS} (ht : TsR P ts ts') (h : SR P p p') : SR P (p.adv ts) (p'.adv ts') := by
  unfold PS.adv
  rw [h.next, ht.len]
  split
  · exact ⟨by simp, h.depth, h.delays, h.decls, h.nodes⟩
  · exact h
theorem SR.take {P : Nat → Nat → Prop} {ts ts' : List Tk} {p p' : PS} (ht : TsR P ts ts') (h : SR P p p') {l : List UInt8} (hl : wordL l = true) : RR (SR P) (p.take ts l) (p'.take ts' l) := by
  unfold PS.take
  simp only [(h.hd ht).same hl]
  split
  · exact h.adv ht
  · exact h.next

def ERes (P : Nat → Nat → Prop) (x y : Nat × PS) : Prop := y.1 = x.1 ∧ SR P x.2 y.2
def NRes (P : Nat → Nat → Prop) (x y : Nd × PS) : Prop := NR P x.1 y.1 ∧ SR P x.2 y.2
def ExR (P : Nat → Nat → Prop) (ex ex' : Ex) : Prop := ∀ p p', SR P p p' → RR (ERes P) (ex p) (ex' p')

theorem SR.add {P : Nat → Nat → Prop} {ts ts' : List Tk} {p p' : PS} (ht : TsR P ts ts') (h : SR P p p') (n : Nd) : SR P (p.add ts n) (p'.add ts' n) := by
  refine ⟨h.next, h.depth, h.delays, h.decls, h.nodes.app ⟨⟨?_, (h.hd ht).pos⟩, trivial⟩⟩
  have hb : ((tkAt ts' (p'.next - 1)).l == kFby) = ((tkAt ts (p.next - 1)).l == kFby) := by
    rw [h.next]
    have := (ht.at' (p.next - 1)).same (l := kFby) (by decide)
    rw [Bool.eq_iff_iff]
    simp [this]
  rw [hb, h.next, h.delays]

theorem insideR {P : Nat → Nat → Prop} {ts ts' : List Tk} (ht : TsR P ts ts') {ex ex' : Ex} (hx : ExR P ex ex') {p p' : PS} {n n' : Nd} (h : SR P p p') (hn : NR P n n') : RR (NRes P) (insideF ts ex p n) (insideF ts' ex' p' n') := by
  have hh := h.hd ht
  have hlit : ∀ (q q' : PS) (a : Nat), SR P q q' → (P 0 0 → True) → isLit (q'.nodes.getD a ndZero) = isLit (q.nodes.getD a ndZero) := by
    intro q q' a hq _
    have hkind := All2.getD (R := fun n n' : Nd => n'.kind = n.kind) (a := ndZero) (b := ndZero) rfl a (by
      have := All2.map (f := id) (g := id) (S := fun n n' : Nd => n'.kind = n.kind) (fun a b hab => by
        have e := hab.1
        show b.kind = a.kind
        rw [e]) hq.nodes
      simpa using this)
    unfold isLit
    rw [hkind]
  unfold insideF
  simp only [hh.same (l := kNot) (by decide), hh.same (l := kIf) (by decide)]
  split
  · unfold notF
    rcases (hx _ _ (h.adv ht)).two with ⟨e, h1, h2⟩ | ⟨⟨a, p1⟩, ⟨a', p1'⟩, h1, h2, rfl, s1⟩
    · rw [h1, h2]; rfl
    · rw [h1, h2]
      refine ⟨⟨?_, hn.2⟩, s1⟩
      show ({ n' with kind := 3, a := a' } : Nd) = _
      rw [hn.1]
  split
  · unfold choiceF
    rcases (hx _ _ (h.adv ht)).two with ⟨e, h1, h2⟩ | ⟨⟨a, p1⟩, ⟨a', p1'⟩, h1, h2, ra, s1⟩
    · rw [h1, h2]; rfl
    · rw [h1, h2]
      simp only
      rcases (hx _ _ s1).two with ⟨e, h1, h2⟩ | ⟨⟨b, p2⟩, ⟨b', p2'⟩, h1, h2, rb, s2⟩
      · rw [h1, h2]; rfl
      · rw [h1, h2]
        simp only
        rcases (hx _ _ s2).two with ⟨e, h1, h2⟩ | ⟨⟨c, p3⟩, ⟨c', p3'⟩, h1, h2, rc, s3⟩
        · rw [h1, h2]; rfl
        · rw [h1, h2]
          cases ra; cases rb; cases rc
          refine ⟨⟨?_, hn.2⟩, s3⟩
          show ({ n' with kind := 4, a := a, b := b, c := c } : Nd) = _
          rw [hn.1]
  · unfold infixF
    rcases (hx _ _ h).two with ⟨e, h1, h2⟩ | ⟨⟨a, p1⟩, ⟨a', p1'⟩, h1, h2, ra, s1⟩
    · rw [h1, h2]; rfl
    · rw [h1, h2]
      cases ra
      simp only
      replace s1 : SR P p1 p1' := s1
      have hh1 := s1.hd ht
      rw [hlit p1 p1' a s1 (fun _ => trivial)]
      simp only [hh1.same (l := kFby) (by decide)]
      split
      · unfold delayF
        have s2 := s1.adv ht
        have s3 : SR P { p1.adv ts with delays := (p1.adv ts).delays + 1 } { p1'.adv ts' with delays := (p1'.adv ts').delays + 1 } := ⟨s2.next, s2.depth, by show (p1'.adv ts').delays + 1 = _; rw [s2.delays], s2.decls, s2.nodes⟩
        rcases (hx _ _ s3).two with ⟨e, h1, h2⟩ | ⟨⟨b, p2⟩, ⟨b', p2'⟩, h1, h2, rb, s4⟩
        · rw [h1, h2]; rfl
        · rw [h1, h2]
          cases rb
          refine ⟨⟨?_, hn.2⟩, ⟨s4.next, s4.depth, by show p2'.delays - 1 = p2.delays - 1; rw [s4.delays], s4.decls, s4.nodes⟩⟩
          show ({ n' with kind := 5, a := a, b := b } : Nd) = _
          rw [hn.1]
      · unfold infixRest
        rw [hh1.op]
        cases ho : opOf (p1.hd ts).l with
        | none => exact s1.next
        | some op =>
          simp only
          rcases (hx _ _ (s1.adv ht)).two with ⟨e, h1, h2⟩ | ⟨⟨b, p2⟩, ⟨b', p2'⟩, h1, h2, rb, s4⟩
          · rw [h1, h2]; rfl
          · rw [h1, h2]
            cases rb
            refine ⟨⟨?_, hn.2⟩, s4⟩
            show ({ n' with kind := 6, op := op, a := a, b := b } : Nd) = _
            rw [hn.1]

theorem bracketR {P : Nat → Nat → Prop} (h00 : P 0 0) {ts ts' : List Tk} (ht : TsR P ts ts') {ex ex' : Ex} (hx : ExR P ex ex') {p p' : PS} (h : SR P p p') : RR (ERes P) (bracketF ts ex p) (bracketF ts' ex' p') := by
  unfold bracketF
  have hl := h.nodes.len
  have s1 := (h.add ht ndZero)
  have s2 := s1.adv ht
  have s3 : SR P { (p.add ts ndZero).adv ts with depth := p.depth + 1 } { (p'.add ts' ndZero).adv ts' with depth := p'.depth + 1 } := ⟨s2.next, by show p'.depth + 1 = _; rw [h.depth], s2.delays, s2.decls, s2.nodes⟩
  rw [hl]
  have hn : NR P ((p.add ts ndZero).nodes.getD p.nodes.length ndZero) ((p'.add ts' ndZero).nodes.getD p.nodes.length ndZero) := All2.getD (R := NR P) ⟨rfl, h00⟩ _ s1.nodes
  rcases (insideR ht hx s3 hn).two with ⟨e, h1, h2⟩ | ⟨⟨m, p2⟩, ⟨m', p2'⟩, h1, h2, hm, s4⟩
  · rw [h1, h2]; rfl
  · rw [h1, h2]
    simp only
    have s5 : SR P { p2 with depth := p2.depth - 1, nodes := p2.nodes.set p.nodes.length m } { p2' with depth := p2'.depth - 1, nodes := p2'.nodes.set p.nodes.length m' } := ⟨s4.next, by show p2'.depth - 1 = p2.depth - 1; rw [s4.depth], s4.delays, s4.decls, s4.nodes.set hm _⟩
    rcases (s5.take ht (l := [41]) (by decide)).two with ⟨e, h1, h2⟩ | ⟨p3, p3', h1, h2, s6⟩
    · rw [h1, h2]; rfl
    · rw [h1, h2]; exact ⟨rfl, s6⟩

theorem exprR {P : Nat → Nat → Prop} (h00 : P 0 0) {ts ts' : List Tk} (ht : TsR P ts ts') : ∀ f, ExR P (exprF ts f) (exprF ts' f) := by
  have hleaf : ∀ (p p' : PS) (n : Nd), SR P p p' → ERes P (leafF ts p n) (leafF ts' p' n) := by
    intro p p' n h
    exact ⟨h.nodes.len, (h.add ht n).adv ht⟩
  have hatom : ∀ p p' (br br' : Except Nat (Nat × PS)), SR P p p' → RR (ERes P) br br' → RR (ERes P) (atomF ts p br) (atomF ts' p' br') := by
    intro p p' br br' h hb
    have hh := h.hd ht
    unfold atomF
    simp only [hh.same (l := [40]) (by decide), hh.same (l := kTrue) (by decide), hh.same (l := kFalse) (by decide), hh.kind]
    split
    · exact hb
    split
    · exact hleaf _ _ _ h
    split
    · exact hleaf _ _ _ h
    split
    · rename_i hk
      rw [hh.val hk]
      exact hleaf _ _ _ h
    split
    · rename_i hk
      rw [hh.text (by rw [hk]; decide)]
      exact hleaf _ _ _ h
    · exact h.next
  intro f
  induction f with
  | zero => intro p p' h; exact hatom p p' _ _ h h.next
  | succ f ih => intro p p' h; exact hatom p p' _ _ h (bracketR h00 ht ih h)

theorem sameSort_alike {P : Nat → Nat → Prop} (d d' : Dc) (hk : d'.kind = d.kind) {l l' : List Dc} (h : All2 (DR P) l l') : sameSort d' l' = sameSort d l := by
  unfold sameSort
  rw [hk]
  exact (All2.filter (fun a b hab => by rw [hab.1]) h).len

theorem SR.declare {P : Nat → Nat → Prop} {p p' : PS} (h : SR P p p') (d d' : Dc) (hd : DR P d d') : SR P (p.declare d) (p'.declare d') := by
  refine ⟨h.next, h.depth, h.delays, h.decls.app ⟨⟨?_, hd.2⟩, trivial⟩, h.nodes⟩
  rw [sameSort_alike d d' (by rw [hd.1]) h.decls]
  show ({ d' with number := d'.number + sameSort d p.decls } : Dc) = _
  rw [hd.1]

theorem declarationR {P : Nat → Nat → Prop} (h00 : P 0 0) {ts ts' : List Tk} (ht : TsR P ts ts') {p p' : PS} (h : SR P p p') : RR (SR P) (declarationF ts p) (declarationF ts' p') := by
  have hh := h.hd ht
  have s1 := h.adv ht
  have hh1 := s1.hd ht
  have s2 := s1.adv ht
  unfold declarationF
  simp only [hh.same (l := kIn) (by decide), hh.same (l := kInt) (by decide), hh.same (l := kBool) (by decide)]
  have eqn : ∀ kind, RR (SR P) (equationF ts kind p) (equationF ts' kind p') := by
    intro kind
    unfold equationF
    simp only [hh1.kind]
    split
    · rename_i hk
      rw [hh1.text (by rw [hk]; decide)]
      rcases (s2.take ht (l := kAt) (by decide)).two with ⟨e, h1, h2⟩ | ⟨p3, p3', h1, h2, s3⟩
      · rw [h1, h2]; rfl
      · rw [h1, h2]
        simp only
        have hh3 := s3.hd ht
        have hpl : RR (ERes P) (placeF ts p3) (placeF ts' p3') := by
          unfold placeF
          by_cases hk3 : (p3.hd ts).kind = 3
          · rw [hh3.kind, hh3.val hk3]
            split
            · exact ⟨rfl, s3.adv ht⟩
            · exact s3.next
          · rw [if_neg (fun x => hk3 x.1), if_neg (fun x => hk3 (hh3.kind ▸ x.1))]
            exact s3.next
        rcases hpl.two with ⟨e, h1, h2⟩ | ⟨⟨pl, p4⟩, ⟨pl', p4'⟩, h1, h2, rp, s4⟩
        · rw [h1, h2]; rfl
        · rw [h1, h2]
          cases rp
          simp only
          rcases (s4.take ht (l := [61]) (by decide)).two with ⟨e, h1, h2⟩ | ⟨p5, p5', h1, h2, s5⟩
          · rw [h1, h2]; rfl
          · rw [h1, h2]
            simp only
            rcases (exprR h00 ht 16 _ _ s5).two with ⟨e, h1, h2⟩ | ⟨⟨r, p6⟩, ⟨r', p6'⟩, h1, h2, rr, s6⟩
            · rw [h1, h2]; rfl
            · rw [h1, h2]
              cases rr
              simp only
              refine (s6.declare _ _ ⟨?_, ?_⟩).take ht (by decide)
              · rw [s6.nodes.len]
              · exact hh1.pos
    · exact s1.next
  split
  · unfold inputF
    simp only [hh1.kind]
    split
    · rename_i hk
      rw [hh1.text (by rw [hk]; decide)]
      exact (s2.declare _ _ ⟨rfl, hh1.pos⟩).take ht (by decide)
    · exact s1.next
  split
  · exact eqn 1
  split
  · exact eqn 2
  · exact h.next

theorem declsR {P : Nat → Nat → Prop} (h00 : P 0 0) {ts ts' : List Tk} (ht : TsR P ts ts') : ∀ f p p', SR P p p' → RR (SR P) (declsF ts f p) (declsF ts' f p') := by
  intro f
  induction f with
  | zero => intro p p' h; exact h
  | succ f ih =>
    intro p p' h
    unfold declsF
    rw [(h.hd ht).kind]
    split
    · exact h
    · rcases (declarationR h00 ht h).two with ⟨e, h1, h2⟩ | ⟨p3, p3', h1, h2, s3⟩
      · rw [h1, h2]; rfl
      · rw [h1, h2]; exact ih _ _ s3

end Go.Proofs.Ytbmhafagdchjfaa
