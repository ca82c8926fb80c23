import Derived.Test.Ytmndgoapkmhglabo02RStand
/- Plain mathematics: texts whose tokens are alike are judged alike. -/
namespace Go.Proofs.Ytmndgoapkmhglab

def All2 {α β : Type} (R : α → β → Prop) : List α → List β → Prop
  | [], [] => True
  | a :: l, b :: m => R a b ∧ All2 R l m
  | _, _ => False

theorem All2.len {α β : Type} {R : α → β → Prop} : ∀ {l : List α} {m : List β}, All2 R l m → m.length = l.length := by
  intro l
  induction l with
  | nil => intro m h; cases m with
    | nil => rfl
    | cons b m => exact h.elim
  | cons a l ih => intro m h; cases m with
    | nil => exact h.elim
    | cons b m => simp [ih h.2]

theorem All2.app {α β : Type} {R : α → β → Prop} : ∀ {l : List α} {m : List β} {l' : List α} {m' : List β}, All2 R l m → All2 R l' m' → All2 R (l ++ l') (m ++ m') := by
  intro l
  induction l with
  | nil => intro m l' m' h h'; cases m with
    | nil => exact h'
    | cons b m => exact h.elim
  | cons a l ih => intro m l' m' h h'; cases m with
    | nil => exact h.elim
    | cons b m => exact ⟨h.1, ih h.2 h'⟩

theorem All2.set {α β : Type} {R : α → β → Prop} {a : α} {b : β} (hr : R a b) : ∀ {l : List α} {m : List β} (i : Nat), All2 R l m → All2 R (l.set i a) (m.set i b) := by
  intro l
  induction l with
  | nil => intro m i h; cases m with
    | nil => simpa using h
    | cons b m => exact h.elim
  | cons c l ih => intro m i h; cases m with
    | nil => exact h.elim
    | cons d m => cases i with
      | zero => exact ⟨hr, h.2⟩
      | succ i => exact ⟨h.1, ih i h.2⟩

theorem All2.getD {α β : Type} {R : α → β → Prop} {a : α} {b : β} (hr : R a b) : ∀ {l : List α} {m : List β} (i : Nat), All2 R l m → R (l.getD i a) (m.getD i b) := by
  intro l
  induction l with
  | nil => intro m i h; cases m with
    | nil => simpa using hr
    | cons b m => exact h.elim
  | cons c l ih => intro m i h; cases m with
    | nil => exact h.elim
    | cons d m => cases i with
      | zero => exact h.1
      | succ i => simpa using ih i h.2

theorem All2.take {α β : Type} {R : α → β → Prop} : ∀ {l : List α} {m : List β} (i : Nat), All2 R l m → All2 R (l.take i) (m.take i) := by
  intro l
  induction l with
  | nil => intro m i h; cases m with
    | nil => simpa using h
    | cons b m => exact h.elim
  | cons c l ih => intro m i h; cases m with
    | nil => exact h.elim
    | cons d m => cases i with
      | zero => exact trivial
      | succ i => exact ⟨h.1, ih i h.2⟩

theorem All2.drop {α β : Type} {R : α → β → Prop} : ∀ {l : List α} {m : List β} (i : Nat), All2 R l m → All2 R (l.drop i) (m.drop i) := by
  intro l
  induction l with
  | nil => intro m i h; cases m with
    | nil => simpa using h
    | cons b m => exact h.elim
  | cons c l ih => intro m i h; cases m with
    | nil => exact h.elim
    | cons d m => cases i with
      | zero => exact h
      | succ i => exact ih i h.2

theorem All2.filter {α β : Type} {R : α → β → Prop} {f : α → Bool} {g : β → Bool} (hfg : ∀ a b, R a b → g b = f a) : ∀ {l : List α} {m : List β}, All2 R l m → All2 R (l.filter f) (m.filter g) := by
  intro l
  induction l with
  | nil => intro m h; cases m with
    | nil => exact h
    | cons b m => exact h.elim
  | cons c l ih => intro m h; cases m with
    | nil => exact h.elim
    | cons d m =>
      rw [List.filter_cons, List.filter_cons, hfg c d h.1]
      split
      · exact ⟨h.1, ih h.2⟩
      · exact ih h.2

theorem All2.map {α β γ δ : Type} {R : α → β → Prop} {S : γ → δ → Prop} {f : α → γ} {g : β → δ} (hfg : ∀ a b, R a b → S (f a) (g b)) : ∀ {l : List α} {m : List β}, All2 R l m → All2 S (l.map f) (m.map g) := by
  intro l
  induction l with
  | nil => intro m h; cases m with
    | nil => exact h
    | cons b m => exact h.elim
  | cons c l ih => intro m h; cases m with
    | nil => exact h.elim
    | cons d m => exact ⟨hfg c d h.1, ih h.2⟩

/-- alike: all but the place in the text. -/
structure TR (P : Nat → Nat → Prop) (t t' : Tk) : Prop where
  kind : t'.kind = t.kind
  pos : P t.pos t'.pos
  val : t.kind = 3 → valOf t'.l = valOf t.l
  dig : t.kind = 3 → (∀ c ∈ t.l, 48 ≤ c.toNat ∧ c.toNat ≤ 57) ∧ (∀ c ∈ t'.l, 48 ≤ c.toNat ∧ c.toNat ≤ 57)
  text : t.kind ≠ 3 → t'.text = t.text

def NR (P : Nat → Nat → Prop) (n n' : Nd) : Prop := n' = { n with pos := n'.pos } ∧ P n.pos n'.pos
def DR (P : Nat → Nat → Prop) (d d' : Dc) : Prop := d' = { d with pos := d'.pos } ∧ P d.pos d'.pos

/-- a word that is no number. -/
def wordL (l : List UInt8) : Bool := l.any fun c => decide (c.toNat < 48) || decide (57 < c.toNat)

theorem TR.same {P : Nat → Nat → Prop} {t t' : Tk} (h : TR P t t') {l : List UInt8} (hl : wordL l = true) : (t'.l = l) = (t.l = l) := by
  by_cases hk : t.kind = 3
  · obtain ⟨h1, h2⟩ := h.dig hk
    have no : ∀ m : List UInt8, (∀ c ∈ m, 48 ≤ c.toNat ∧ c.toNat ≤ 57) → m ≠ l := by
      intro m hm e
      subst e
      unfold wordL at hl
      rw [List.any_eq_true] at hl
      obtain ⟨c, hc, hd⟩ := hl
      have := hm c hc
      simp at hd
      omega
    exact propext ⟨fun e => absurd e (no _ h2), fun e => absurd e (no _ h1)⟩
  · unfold Tk.l
    rw [h.text hk]

theorem TR.op {P : Nat → Nat → Prop} {t t' : Tk} (h : TR P t t') : opOf t'.l = opOf t.l := by
  unfold opOf
  simp only [h.same (l := [43]) (by decide), h.same (l := [45]) (by decide), h.same (l := [42]) (by decide), h.same (l := [47]) (by decide), h.same (l := [60]) (by decide), h.same (l := [61]) (by decide), h.same (l := [38]) (by decide), h.same (l := [124]) (by decide)]

structure TsR (P : Nat → Nat → Prop) (ts ts' : List Tk) : Prop where
  len : ts'.length = ts.length
  at' : ∀ i, TR P (tkAt ts i) (tkAt ts' i)

structure SR (P : Nat → Nat → Prop) (p p' : PS) : Prop where
  next : p'.next = p.next
  depth : p'.depth = p.depth
  delays : p'.delays = p.delays
  decls : All2 (DR P) p.decls p'.decls
  nodes : All2 (NR P) p.nodes p'.nodes

def RR {α β : Type} (R : α → β → Prop) : Except Nat α → Except Nat β → Prop
  | .ok a, .ok b => R a b
  | .error j, .error k => k = j
  | _, _ => False

theorem RR.two {α β : Type} {R : α → β → Prop} {x : Except Nat α} {y : Except Nat β} (h : RR R x y) : (∃ e, x = .error e ∧ y = .error e) ∨ (∃ a b, x = .ok a ∧ y = .ok b ∧ R a b) := by
  cases x with
  | error e => cases y with
    | error f => exact .inl ⟨e, rfl, by rw [show f = e from h]⟩
    | ok b => exact h.elim
  | ok a => cases y with
    | error f => exact h.elim
    | ok b => exact .inr ⟨a, b, rfl, rfl, h⟩

theorem SR.hd {P : Nat → Nat → Prop} {ts ts' : List Tk} {p p' : PS} (ht : TsR P ts ts') (h : SR P p p') : TR P (p.hd ts) (p'.hd ts') := by
  unfold PS.hd; rw [h.next]; exact ht.at' _
theorem SR.adv {P : Nat → Nat → Prop} {ts ts' : List Tk} {p p' : PS} (ht : TsR P ts ts') (h : SR P p p') : SR P (p.adv ts) (p'.adv ts') := by
  unfold PS.adv
  rw [h.next, ht.len]
  split
  · exact ⟨by simp, h.depth, h.delays, h.decls, h.nodes⟩
  · exact h
theorem SR.take {P : Nat → Nat → Prop} {ts ts' : List Tk} {p p' : PS} (ht : TsR P ts ts') (h : SR P p p') {l : List UInt8} (hl : wordL l = true) : RR (SR P) (p.take ts l) (p'.take ts' l) := by
  unfold PS.take
  simp only [(h.hd ht).same hl]
  split
  · exact h.adv ht
  · exact h.next

def ERes (P : Nat → Nat → Prop) (x y : Nat × PS) : Prop := y.1 = x.1 ∧ SR P x.2 y.2
def NRes (P : Nat → Nat → Prop) (x y : Nd × PS) : Prop := NR P x.1 y.1 ∧ SR P x.2 y.2
def ExR (P : Nat → Nat → Prop) (ex ex' : Ex) : Prop := ∀ p p', SR P p p' → RR (ERes P) (ex p) (ex' p')

theorem SR.add {P : Nat → Nat → Prop} {ts ts' : List Tk} {p p' : PS} (ht : TsR P ts ts') (h : SR P p p') (n : Nd) : SR P (p.add ts n) (p'.add ts' n) := by
  refine ⟨h.next, h.depth, h.delays, h.decls, h.nodes.app ⟨⟨?_, (h.hd ht).pos⟩, trivial⟩⟩
  have hb : ((tkAt ts' (p'.next - 1)).l == kFby) = ((tkAt ts (p.next - 1)).l == kFby) := by
    rw [h.next]
    have := (ht.at' (p.next - 1)).same (l := kFby) (by decide)
    rw [Bool.eq_iff_iff]
    simp [this]
  rw [hb, h.next, h.delays]

theorem insideR {P : Nat → Nat → Prop} {ts ts' : List Tk} (ht : TsR P ts ts') {ex ex' : Ex} (hx : ExR P ex ex') {p p' : PS} {n n' : Nd} (h : SR P p p') (hn : NR P n n') : RR (NRes P) (insideF ts ex p n) (insideF ts' ex' p' n') := by
  have hh := h.hd ht
  have hlit : ∀ (q q' : PS) (a : Nat), SR P q q' → (P 0 0 → True) → isLit (q'.nodes.getD a ndZero) = isLit (q.nodes.getD a ndZero) := by
    intro q q' a hq _
    have hkind := All2.getD (R := fun n n' : Nd => n'.kind = n.kind) (a := ndZero) (b := ndZero) rfl a (by
      have := All2.map (f := id) (g := id) (S := fun n n' : Nd => n'.kind = n.kind) (fun a b hab => by
        have e := hab.1
        show b.kind = a.kind
        rw [e]) hq.nodes
      simpa using this)
    unfold isLit
    rw [hkind]
  unfold insideF
  simp only [hh.same (l := kNot) (by decide), hh.same (l := kIf) (by decide)]
  split
  · unfold notF
    rcases (hx _ _ (h.adv ht)).two with ⟨e, h1, h2⟩ | ⟨⟨a, p1⟩, ⟨a', p1'⟩, h1, h2, rfl, s1⟩
    · rw [h1, h2]; rfl
    · rw [h1, h2]
      refine ⟨⟨?_, hn.2⟩, s1⟩
      show ({ n' with kind := 3, a := a' } : Nd) = _
      rw [hn.1]
  split
  · unfold choiceF
    rcases (hx _ _ (h.adv ht)).two with ⟨e, h1, h2⟩ | ⟨⟨a, p1⟩, ⟨a', p1'⟩, h1, h2, ra, s1⟩
    · rw [h1, h2]; rfl
    · rw [h1, h2]
      simp only
      rcases (hx _ _ s1).two with ⟨e, h1, h2⟩ | ⟨⟨b, p2⟩, ⟨b', p2'⟩, h1, h2, rb, s2⟩
      · rw [h1, h2]; rfl
      · rw [h1, h2]
        simp only
        rcases (hx _ _ s2).two with ⟨e, h1, h2⟩ | ⟨⟨c, p3⟩, ⟨c', p3'⟩, h1, h2, rc, s3⟩
        · rw [h1, h2]; rfl
        · rw [h1, h2]
          cases ra; cases rb; cases rc
          refine ⟨⟨?_, hn.2⟩, s3⟩
          show ({ n' with kind := 4, a := a, b := b, c := c } : Nd) = _
          rw [hn.1]
  · unfold infixF
    rcases (hx _ _ h).two with ⟨e, h1, h2⟩ | ⟨⟨a, p1⟩, ⟨a', p1'⟩, h1, h2, ra, s1⟩
    · rw [h1, h2]; rfl
    · rw [h1, h2]
      cases ra
      simp only
      replace s1 : SR P p1 p1' := s1
      have hh1 := s1.hd ht
      rw [hlit p1 p1' a s1 (fun _ => trivial)]
      simp only [hh1.same (l := kFby) (by decide)]
      split
      · unfold delayF
        have s2 := s1.adv ht
        have s3 : SR P { p1.adv ts with delays := (p1.adv ts).delays + 1 } { p1'.adv ts' with delays := (p1'.adv ts').delays + 1 } := ⟨s2.next, s2.depth, by show (p1'.adv ts').delays + 1 = _; rw [s2.delays], s2.decls, s2.nodes⟩
        rcases (hx _ _ s3).two with ⟨e, h1, h2⟩ | ⟨⟨b, p2⟩, ⟨b', p2'⟩, h1, h2, rb, s4⟩
        · rw [h1, h2]; rfl
        · rw [h1, h2]
          cases rb
          refine ⟨⟨?_, hn.2⟩, ⟨s4.next, s4.depth, by show p2'.delays - 1 = p2.delays - 1; rw [s4.delays], s4.decls, s4.nodes⟩⟩
          show ({ n' with kind := 5, a := a, b := b } : Nd) = _
          rw [hn.1]
      · unfold infixRest
        rw [hh1.op]
        cases ho : opOf (p1.hd ts).l with
        | none => exact s1.next
        | some op =>
          simp only
          rcases (hx _ _ (s1.adv ht)).two with ⟨e, h1, h2⟩ | ⟨⟨b, p2⟩, ⟨b', p2'⟩, h1, h2, rb, s4⟩
          · rw [h1, h2]; rfl
          · rw [h1, h2]
            cases rb
            refine ⟨⟨?_, hn.2⟩, s4⟩
            show ({ n' with kind := 6, op := op, a := a, b := b } : Nd) = _
            rw [hn.1]

theorem bracketR {P : Nat → Nat → Prop} (h00 : P 0 0) {ts ts' : List Tk} (ht : TsR P ts ts') {ex ex' : Ex} (hx : ExR P ex ex') {p p' : PS} (h : SR P p p') : RR (ERes P) (bracketF ts ex p) (bracketF ts' ex' p') := by
  unfold bracketF
  have hl := h.nodes.len
  have s1 := (h.add ht ndZero)
  have s2 := s1.adv ht
  have s3 : SR P { (p.add ts ndZero).adv ts with depth := p.depth + 1 } { (p'.add ts' ndZero).adv ts' with depth := p'.depth + 1 } := ⟨s2.next, by show p'.depth + 1 = _; rw [h.depth], s2.delays, s2.decls, s2.nodes⟩
  rw [hl]
  have hn : NR P ((p.add ts ndZero).nodes.getD p.nodes.length ndZero) ((p'.add ts' ndZero).nodes.getD p.nodes.length ndZero) := All2.getD (R := NR P) ⟨rfl, h00⟩ _ s1.nodes
  rcases (insideR ht hx s3 hn).two with ⟨e, h1, h2⟩ | ⟨⟨m, p2⟩, ⟨m', p2'⟩, h1, h2, hm, s4⟩
  · rw [h1, h2]; rfl
  · rw [h1, h2]
    simp only
    have s5 : SR P { p2 with depth := p2.depth - 1, nodes := p2.nodes.set p.nodes.length m } { p2' with depth := p2'.depth - 1, nodes := p2'.nodes.set p.nodes.length m' } := ⟨s4.next, by show p2'.depth - 1 = p2.depth - 1; rw [s4.depth], s4.delays, s4.decls, s4.nodes.set hm _⟩
    rcases (s5.take ht (l := [41]) (by decide)).two with ⟨e, h1, h2⟩ | ⟨p3, p3', h1, h2, s6⟩
    · rw [h1, h2]; rfl
    · rw [h1, h2]; exact ⟨rfl, s6⟩

theorem exprR {P : Nat → Nat → Prop} (h00 : P 0 0) {ts ts' : List Tk} (ht : TsR P ts ts') : ∀ f, ExR P (exprF ts f) (exprF ts' f) := by
  have hleaf : ∀ (p p' : PS) (n : Nd), SR P p p' → ERes P (leafF ts p n) (leafF ts' p' n) := by
    intro p p' n h
    exact ⟨h.nodes.len, (h.add ht n).adv ht⟩
  have hatom : ∀ p p' (br br' : Except Nat (Nat × PS)), SR P p p' → RR (ERes P) br br' → RR (ERes P) (atomF ts p br) (atomF ts' p' br') := by
    intro p p' br br' h hb
    have hh := h.hd ht
    unfold atomF
    simp only [hh.same (l := [40]) (by decide), hh.same (l := kTrue) (by decide), hh.same (l := kFalse) (by decide), hh.kind]
    split
    · exact hb
    split
    · exact hleaf _ _ _ h
    split
    · exact hleaf _ _ _ h
    split
    · rename_i hk
      rw [hh.val hk]
      exact hleaf _ _ _ h
    split
    · rename_i hk
      rw [hh.text (by rw [hk]; decide)]
      exact hleaf _ _ _ h
    · exact h.next
  intro f
  induction f with
  | zero => intro p p' h; exact hatom p p' _ _ h h.next
  | succ f ih => intro p p' h; exact hatom p p' _ _ h (bracketR h00 ht ih h)

theorem sameSort_alike {P : Nat → Nat → Prop} (d d' : Dc) (hk : d'.kind = d.kind) {l l' : List Dc} (h : All2 (DR P) l l') : sameSort d' l' = sameSort d l := by
  unfold sameSort
  rw [hk]
  exact (All2.filter (fun a b hab => by rw [hab.1]) h).len

theorem SR.declare {P : Nat → Nat → Prop} {p p' : PS} (h : SR P p p') (d d' : Dc) (hd : DR P d d') : SR P (p.declare d) (p'.declare d') := by
  refine ⟨h.next, h.depth, h.delays, h.decls.app ⟨⟨?_, hd.2⟩, trivial⟩, h.nodes⟩
  rw [sameSort_alike d d' (by rw [hd.1]) h.decls]
  show ({ d' with number := d'.number + sameSort d p.decls } : Dc) = _
  rw [hd.1]

theorem declarationR {P : Nat → Nat → Prop} (h00 : P 0 0) {ts ts' : List Tk} (ht : TsR P ts ts') {p p' : PS} (h : SR P p p') : RR (SR P) (declarationF ts p) (declarationF ts' p') := by
  have hh := h.hd ht
  have s1 := h.adv ht
  have hh1 := s1.hd ht
  have s2 := s1.adv ht
  unfold declarationF
  simp only [hh.same (l := kIn) (by decide), hh.same (l := kInt) (by decide), hh.same (l := kBool) (by decide)]
  have eqn : ∀ kind, RR (SR P) (equationF ts kind p) (equationF ts' kind p') := by
    intro kind
    unfold equationF
    simp only [hh1.kind]
    split
    · rename_i hk
      rw [hh1.text (by rw [hk]; decide)]
      rcases (s2.take ht (l := kAt) (by decide)).two with ⟨e, h1, h2⟩ | ⟨p3, p3', h1, h2, s3⟩
      · rw [h1, h2]; rfl
      · rw [h1, h2]
        simp only
        have hh3 := s3.hd ht
        have hpl : RR (ERes P) (placeF ts p3) (placeF ts' p3') := by
          unfold placeF
          by_cases hk3 : (p3.hd ts).kind = 3
          · rw [hh3.kind, hh3.val hk3]
            split
            · exact ⟨rfl, s3.adv ht⟩
            · exact s3.next
          · rw [if_neg (fun x => hk3 x.1), if_neg (fun x => hk3 (hh3.kind ▸ x.1))]
            exact s3.next
        rcases hpl.two with ⟨e, h1, h2⟩ | ⟨⟨pl, p4⟩, ⟨pl', p4'⟩, h1, h2, rp, s4⟩
        · rw [h1, h2]; rfl
        · rw [h1, h2]
          cases rp
          simp only
          rcases (s4.take ht (l := [61]) (by decide)).two with ⟨e, h1, h2⟩ | ⟨p5, p5', h1, h2, s5⟩
          · rw [h1, h2]; rfl
          · rw [h1, h2]
            simp only
            rcases (exprR h00 ht 16 _ _ s5).two with ⟨e, h1, h2⟩ | ⟨⟨r, p6⟩, ⟨r', p6'⟩, h1, h2, rr, s6⟩
            · rw [h1, h2]; rfl
            · rw [h1, h2]
              cases rr
              simp only
              refine (s6.declare _ _ ⟨?_, ?_⟩).take ht (by decide)
              · rw [s6.nodes.len]
              · exact hh1.pos
    · exact s1.next
  split
  · unfold inputF
    simp only [hh1.kind]
    split
    · rename_i hk
      rw [hh1.text (by rw [hk]; decide)]
      exact (s2.declare _ _ ⟨rfl, hh1.pos⟩).take ht (by decide)
    · exact s1.next
  split
  · exact eqn 1
  split
  · exact eqn 2
  · exact h.next

theorem declsR {P : Nat → Nat → Prop} (h00 : P 0 0) {ts ts' : List Tk} (ht : TsR P ts ts') : ∀ f p p', SR P p p' → RR (SR P) (declsF ts f p) (declsF ts' f p') := by
  intro f
  induction f with
  | zero => intro p p' h; exact h
  | succ f ih =>
    intro p p' h
    unfold declsF
    rw [(h.hd ht).kind]
    split
    · exact h
    · rcases (declarationR h00 ht h).two with ⟨e, h1, h2⟩ | ⟨p3, p3', h1, h2, s3⟩
      · rw [h1, h2]; rfl
      · rw [h1, h2]; exact ih _ _ s3

end Go.Proofs.Ytmndgoapkmhglab

/- Plain mathematics: what is alike is judged alike. -/
namespace Go.Proofs.Ytmndgoapkmhglab

def OR (P : Nat → Nat → Prop) : Option Nat → Option Nat → Prop
  | none, none => True
  | some a, some b => P a b
  | _, _ => False

theorem tooManyR {P : Nat → Nat → Prop} : ∀ {l l' : List Dc}, All2 (DR P) l l' → OR P (tooManyF l) (tooManyF l') := by
  intro l
  induction l with
  | nil => intro m h; cases m with
    | nil => exact trivial
    | cons b m => exact h.elim
  | cons a l ih => intro m h; cases m with
    | nil => exact h.elim
    | cons b m =>
      obtain ⟨⟨e, hp⟩, h2⟩ := h
      unfold tooManyF
      have e1 : most b = most a := by rw [e]; rfl
      have e2 : b.number = a.number := by rw [e]
      rw [e1, e2]
      split
      · exact hp
      · exact ih h2

theorem findR {P : Nat → Nat → Prop} {l l' : List Dc} (h : All2 (DR P) l l') (name : ByteArray) : findF l' name = findF l name := by
  have : ∀ {l l' : List Dc}, All2 (DR P) l l' → l'.findIdx? (fun d => d.name.data.toList == name.data.toList) = l.findIdx? (fun d => d.name.data.toList == name.data.toList) := by
    intro l
    induction l with
    | nil => intro m h; cases m with
      | nil => rfl
      | cons b m => exact h.elim
    | cons a l ih => intro m h; cases m with
      | nil => exact h.elim
      | cons b m =>
        obtain ⟨⟨e, hp⟩, h2⟩ := h
        have e1 : b.name = a.name := by rw [e]
        rw [List.findIdx?_cons, List.findIdx?_cons, e1, ih h2]
  unfold findF
  rw [this h]

theorem bindR {P : Nat → Nat → Prop} {l l' : List Dc} (h : All2 (DR P) l l') {ns ns' : List Nd} (hn : All2 (NR P) ns ns') : All2 (NR P) (ns.map (bindF l)) (ns'.map (bindF l')) := by
  refine All2.map ?_ hn
  intro a b hab
  obtain ⟨e, hp⟩ := hab
  unfold bindF
  have e1 : b.kind = a.kind := by rw [e]
  have e2 : b.name = a.name := by rw [e]
  rw [e1, e2, findR h]
  split
  · refine ⟨?_, hp⟩
    rw [e]
  · exact ⟨e, hp⟩

theorem segR {P : Nat → Nat → Prop} {ns ns' : List Nd} (hn : All2 (NR P) ns ns') (a b : Nat) : All2 (NR P) (seg ns a b) (seg ns' a b) := (hn.drop a).take (b - a)

theorem badNodeR {P : Nat → Nat → Prop} : ∀ {l l' : List Nd}, All2 (NR P) l l' → OR P (badNodeF l) (badNodeF l') := by
  intro l
  induction l with
  | nil => intro m h; cases m with
    | nil => exact trivial
    | cons b m => exact h.elim
  | cons a l ih => intro m h; cases m with
    | nil => exact h.elim
    | cons b m =>
      obtain ⟨⟨e, hp⟩, h2⟩ := h
      unfold badNodeF
      have e1 : b.kind = a.kind := by rw [e]
      have e2 : b.decl = a.decl := by rw [e]
      rw [e1, e2]
      split
      · exact hp
      · exact ih h2

theorem OR.two {P : Nat → Nat → Prop} {x y : Option Nat} (h : OR P x y) : (x = none ∧ y = none) ∨ ∃ a b, x = some a ∧ y = some b ∧ P a b := by
  cases x with
  | none => cases y with
    | none => exact .inl ⟨rfl, rfl⟩
    | some b => exact h.elim
  | some a => cases y with
    | none => exact h.elim
    | some b => exact .inr ⟨a, b, rfl, rfl, h⟩

theorem badNameR {P : Nat → Nat → Prop} {all all' : List Dc} (ha : All2 (DR P) all all') {ns ns' : List Nd} (hn : All2 (NR P) ns ns') : ∀ {l l' : List Dc} (i : Nat), All2 (DR P) l l' → OR P (badNameF all ns i l) (badNameF all' ns' i l') := by
  intro l
  induction l with
  | nil => intro m i h; cases m with
    | nil => exact trivial
    | cons b m => exact h.elim
  | cons a l ih => intro m i h; cases m with
    | nil => exact h.elim
    | cons b m =>
      obtain ⟨⟨e, hp⟩, h2⟩ := h
      unfold badNameF
      have e1 : b.name = a.name := by rw [e]
      have e2 : b.root = a.root := by rw [e]
      have e3 : b.fin = a.fin := by rw [e]
      rw [e1, e2, e3, findR ha]
      split
      · exact hp
      · rcases (badNodeR (segR hn a.root a.fin)).two with ⟨h1, h3⟩ | ⟨x, y, h1, h3, h4⟩
        · rw [h1, h3]; exact ih (i + 1) h2
        · rw [h1, h3]; exact h4

theorem kindAtR {P : Nat → Nat → Prop} {ds ds' : List Dc} (h : All2 (DR P) ds ds') (i : Int) : kindAt ds' i = kindAt ds i := by
  unfold kindAt
  exact All2.getD (R := fun d d' : Dc => d'.kind = d.kind) rfl _ (by
    have := All2.map (f := id) (g := id) (S := fun d d' : Dc => d'.kind = d.kind) (fun a b hab => by
      have e := hab.1
      show b.kind = a.kind
      rw [e]) h
    simpa using this)

theorem badTypeR {P : Nat → Nat → Prop} {ds ds' : List Dc} (hd : All2 (DR P) ds ds') : ∀ {l l' : List Nd} (i : Nat) (tr : List Bool), All2 (NR P) l l' → OR P (badTypeF ds i l tr) (badTypeF ds' i l' tr) := by
  intro l
  induction l with
  | nil => intro m i tr h; cases m with
    | nil => exact trivial
    | cons b m => exact h.elim
  | cons a l ih => intro m i tr h; cases m with
    | nil => exact h.elim
    | cons b m =>
      obtain ⟨⟨e, hp⟩, h2⟩ := h
      unfold badTypeF
      have e1 : fitsF ds' b (tr.getD i false) = fitsF ds a (tr.getD i false) := by
        rw [e]; unfold fitsF; simp only [kindAtR hd]
      have e2 : tell b (tr.getD i false) tr = tell a (tr.getD i false) tr := by rw [e]; rfl
      rw [e1, e2]
      split
      · exact ih (i + 1) _ h2
      · exact hp

theorem rootsR {P : Nat → Nat → Prop} : ∀ {l l' : List Dc} (tr : List Bool), All2 (DR P) l l' → roots l' tr = roots l tr := by
  intro l
  induction l with
  | nil => intro m tr h; cases m with
    | nil => rfl
    | cons b m => exact h.elim
  | cons a l ih => intro m tr h; cases m with
    | nil => exact h.elim
    | cons b m =>
      obtain ⟨⟨e, hp⟩, h2⟩ := h
      unfold roots
      have e1 : b.kind = a.kind := by rw [e]
      have e2 : b.root = a.root := by rw [e]
      rw [e1, e2, ih _ h2]

theorem markSegR {P : Nat → Nat → Prop} {ds ds' : List Dc} (hd : All2 (DR P) ds ds') (i : Nat) : ∀ {l l' : List Nd} (M : Mx), All2 (NR P) l l' → markSeg ds' i l' M = markSeg ds i l M := by
  intro l
  induction l with
  | nil => intro m M h; cases m with
    | nil => rfl
    | cons b m => exact h.elim
  | cons a l ih => intro m M h; cases m with
    | nil => exact h.elim
    | cons b m =>
      obtain ⟨⟨e, hp⟩, h2⟩ := h
      unfold markSeg
      have e1 : b.kind = a.kind := by rw [e]
      have e2 : b.delayed = a.delayed := by rw [e]
      have e3 : b.decl = a.decl := by rw [e]
      rw [e1, e2, e3, kindAtR hd, ih _ h2]

theorem markAllR {P : Nat → Nat → Prop} {ds ds' : List Dc} (hd : All2 (DR P) ds ds') {ns ns' : List Nd} (hn : All2 (NR P) ns ns') : ∀ {l l' : List Dc} (i : Nat) (M : Mx), All2 (DR P) l l' → markAll ds' ns' i l' M = markAll ds ns i l M := by
  intro l
  induction l with
  | nil => intro m i M h; cases m with
    | nil => rfl
    | cons b m => exact h.elim
  | cons a l ih => intro m i M h; cases m with
    | nil => exact h.elim
    | cons b m =>
      obtain ⟨⟨e, hp⟩, h2⟩ := h
      unfold markAll
      have e1 : b.root = a.root := by rw [e]
      have e2 : b.fin = a.fin := by rw [e]
      rw [e1, e2, markSegR hd i M (segR hn _ _), ih _ _ h2]

theorem firstSelfR {P : Nat → Nat → Prop} (M : Mx) : ∀ {l l' : List Dc} (i : Nat), All2 (DR P) l l' → OR P (firstSelf M i l) (firstSelf M i l') := by
  intro l
  induction l with
  | nil => intro m i h; cases m with
    | nil => exact trivial
    | cons b m => exact h.elim
  | cons a l ih => intro m i h; cases m with
    | nil => exact h.elim
    | cons b m =>
      obtain ⟨⟨e, hp⟩, h2⟩ := h
      unfold firstSelf
      split
      · exact hp
      · exact ih (i + 1) h2

theorem cycleR {P : Nat → Nat → Prop} {ds ds' : List Dc} (hd : All2 (DR P) ds ds') {ns ns' : List Nd} (hn : All2 (NR P) ns ns') : OR P (cycleF ds ns) (cycleF ds' ns') := by
  unfold cycleF
  rw [markAllR hd hn _ _ hd, hd.len]
  exact firstSelfR _ _ hd

theorem usesSegR {P : Nat → Nat → Prop} (decl : Nat) : ∀ {l l' : List Nd} (u p : Bool), All2 (NR P) l l' → usesSeg decl l' u p = usesSeg decl l u p := by
  intro l
  induction l with
  | nil => intro m u p h; cases m with
    | nil => rfl
    | cons b m => exact h.elim
  | cons a l ih => intro m u p h; cases m with
    | nil => exact h.elim
    | cons b m =>
      obtain ⟨⟨e, hp⟩, h2⟩ := h
      unfold usesSeg
      have e1 : b.kind = a.kind := by rw [e]
      have e2 : b.decl = a.decl := by rw [e]
      have e3 : b.behind = a.behind := by rw [e]
      rw [e1, e2, e3, ih _ _ h2, ih _ _ h2]

theorem usesAllR {P : Nat → Nat → Prop} {ns ns' : List Nd} (hn : All2 (NR P) ns ns') (decl place : Nat) : ∀ {l l' : List Dc} (u p : Bool), All2 (DR P) l l' → usesAll ns' decl place l' u p = usesAll ns decl place l u p := by
  intro l
  induction l with
  | nil => intro m u p h; cases m with
    | nil => rfl
    | cons b m => exact h.elim
  | cons a l ih => intro m u p h; cases m with
    | nil => exact h.elim
    | cons b m =>
      obtain ⟨⟨e, hp⟩, h2⟩ := h
      unfold usesAll
      have e1 : b.kind = a.kind := by rw [e]
      have e2 : b.place = a.place := by rw [e]
      have e3 : b.root = a.root := by rw [e]
      have e4 : b.fin = a.fin := by rw [e]
      rw [e1, e2, e3, e4, usesSegR decl _ _ (segR hn _ _), ih _ _ h2, ih _ _ h2]

theorem linksR {P : Nat → Nat → Prop} {ds ds' : List Dc} (hd : All2 (DR P) ds ds') {ns ns' : List Nd} (hn : All2 (NR P) ns ns') : linksF ds' ns' = linksF ds ns := by
  have hu : ∀ i q, usesF ds' ns' i q = usesF ds ns i q := fun i q => usesAllR hn i q _ _ hd
  have hto : ∀ i (d d' : Dc), DR P d d' → ∀ q, linksTo ds' ns' i d' q = linksTo ds ns i d q := by
    intro i d d' hdd q
    induction q with
    | zero => rfl
    | succ q ih =>
      unfold linksTo linkAt
      have e1 : d'.place = d.place := by rw [hdd.1]
      have e2 : d'.number = d.number := by rw [hdd.1]
      rw [ih, hu, e1, e2]
  have hfrom : ∀ {l l' : List Dc} (i : Nat), All2 (DR P) l l' → linksFrom ds' ns' i l' = linksFrom ds ns i l := by
    intro l
    induction l with
    | nil => intro m i h; cases m with
      | nil => rfl
      | cons b m => exact h.elim
    | cons a l ih => intro m i h; cases m with
      | nil => exact h.elim
      | cons b m =>
        unfold linksFrom
        have e1 : b.kind = a.kind := by rw [h.1.1]
        rw [e1, hto i a b h.1 4, ih (i + 1) h.2]
  exact hfrom 0 hd

theorem eqsR {P : Nat → Nat → Prop} {ds ds' : List Dc} (hd : All2 (DR P) ds ds') : All2 (DR P) (eqsF ds) (eqsF ds') :=
  All2.filter (fun a b hab => by rw [hab.1]) hd

theorem waitsR {P : Nat → Nat → Prop} {es es' : List Dc} (he : All2 (DR P) es es') : ∀ (l : List Rt) (M : Mx), waitsM es' l M = waitsM es l M := by
  have hp : ∀ k, (es'.getD k ⟨0, 0, ⟨#[]⟩, 0, 0, 0, 0⟩).place = (es.getD k ⟨0, 0, ⟨#[]⟩, 0, 0, 0, 0⟩).place := by
    intro k
    exact All2.getD (R := fun d d' : Dc => d'.place = d.place) rfl _ (by
      have := All2.map (f := id) (g := id) (S := fun d d' : Dc => d'.place = d.place) (fun a b hab => by
        have e := hab.1
        show b.place = a.place
        rw [e]) he
      simpa using this)
  intro l
  induction l with
  | nil => intro M; rfl
  | cons r l ih => intro M; unfold waitsM; rw [hp, ih]

theorem firstAtR {P : Nat → Nat → Prop} (M : Mx) : ∀ {l l' : List Dc}, All2 (DR P) l l' → OR P (firstAt M l) (firstAt M l') := by
  intro l
  induction l with
  | nil => intro m h; cases m with
    | nil => exact trivial
    | cons b m => exact h.elim
  | cons a l ih => intro m h; cases m with
    | nil => exact h.elim
    | cons b m =>
      obtain ⟨⟨e, hp⟩, h2⟩ := h
      unfold firstAt
      have e1 : b.place = a.place := by rw [e]
      rw [e1]
      split
      · exact hp
      · exact ih h2

theorem loopR {P : Nat → Nat → Prop} {ds ds' : List Dc} (hd : All2 (DR P) ds ds') {ns ns' : List Nd} (hn : All2 (NR P) ns ns') : OR P (loopF ds ns) (loopF ds' ns') := by
  unfold loopF
  rw [linksR hd hn, waitsR (eqsR hd)]
  exact firstAtR _ (eqsR hd)

/-- the same error, and places that belong together. -/
def AR (P : Nat → Nat → Prop) (x y : Nat × Nat) : Prop := y.1 = x.1 ∧ P x.2 y.2

theorem meaningR {P : Nat → Nat → Prop} (h00 : P 0 0) {ds ds' : List Dc} (hd : All2 (DR P) ds ds') {ns ns' : List Nd} (hn : All2 (NR P) ns ns') : AR P (meaningF ds ns) (meaningF ds' ns') := by
  unfold meaningF
  rcases (tooManyR hd).two with ⟨h1, h2⟩ | ⟨a, b, h1, h2, h3⟩
  · rw [h1, h2]
    rcases (badNameR hd hn 0 hd).two with ⟨h1, h2⟩ | ⟨a, b, h1, h2, h3⟩
    · rw [h1, h2, rootsR _ hd, hn.len]
      rcases (badTypeR hd 0 (roots ds (List.replicate ns.length false)) hn).two with ⟨h1, h2⟩ | ⟨a, b, h1, h2, h3⟩
      · rw [h1, h2]
        rcases (cycleR hd hn).two with ⟨h1, h2⟩ | ⟨a, b, h1, h2, h3⟩
        · rw [h1, h2]
          rcases (loopR hd hn).two with ⟨h1, h2⟩ | ⟨a, b, h1, h2, h3⟩
          · rw [h1, h2]; exact ⟨rfl, h00⟩
          · rw [h1, h2]; exact ⟨rfl, h3⟩
        · rw [h1, h2]; exact ⟨rfl, h3⟩
      · rw [h1, h2]; exact ⟨rfl, h3⟩
    · rw [h1, h2]; exact ⟨rfl, h3⟩
  · rw [h1, h2]; exact ⟨rfl, h3⟩

theorem SR.start (P : Nat → Nat → Prop) : SR P pZero pZero := ⟨rfl, rfl, rfl, trivial, trivial⟩

theorem textR {P : Nat → Nat → Prop} (h00 : P 0 0) (s s' : ByteArray) (hs : s.size ≤ 1500) (hs' : s'.size ≤ 1500) (ht : TsR P (toks s) (toks s')) : AR P (textF s) (textF s') := by
  unfold textF
  rw [if_neg (by omega), if_neg (by omega)]
  have hp : RR (SR P) (parseF s) (parseF s') := by
    unfold parseF
    rw [ht.len]
    exact declsR h00 ht _ _ _ (SR.start P)
  rcases hp.two with ⟨e, h1, h2⟩ | ⟨p, p', h1, h2, h3⟩
  · rw [h1, h2]; exact ⟨rfl, (ht.at' e).pos⟩
  · rw [h1, h2]
    exact meaningR h00 h3.decls (bindR h3.decls h3.nodes)

end Go.Proofs.Ytmndgoapkmhglab

/- Plain mathematics: a token that stands nowhere is found just there. -/
namespace Go.Proofs.Ytmndgoapkmhglab

/-- tokens have been used up, and not all. -/
def Fwd (ts : List Tk) (p p' : PS) : Prop := p.next < p'.next ∧ p'.next < ts.length
def ExM (ts : List Tk) (ex : Ex) : Prop := ∀ p r p', p.next < ts.length → ex p = .ok (r, p') → Fwd ts p p'

theorem fwd_adv {ts : List Tk} (ht : TsOk ts) {p : PS} (h : p.next < ts.length) (hk : (p.hd ts).kind ≠ 0 ∨ (p.hd ts).l ≠ []) : Fwd ts p (p.adv ts) := by
  rw [adv_next ht h hk]
  exact ⟨Nat.lt_succ_self _, ht.last h hk⟩
theorem Fwd.trans {ts : List Tk} {p q r : PS} (h : Fwd ts p q) (k : Fwd ts q r) : Fwd ts p r := ⟨Nat.lt_trans h.1 k.1, k.2⟩

theorem insideM {ts : List Tk} (ht : TsOk ts) {ex : Ex} (hx : ExM ts ex) {p p' : PS} {n n' : Nd} (h : p.next < ts.length) (he : insideF ts ex p n = .ok (n', p')) : Fwd ts p p' := by
  unfold insideF at he
  split at he
  · rename_i hl
    have s1 := fwd_adv ht h (.inr (by rw [hl]; decide))
    unfold notF at he
    split at he
    · cases he
    · rename_i e1
      cases he
      exact s1.trans (hx _ _ _ s1.2 e1)
  split at he
  · rename_i hl
    have s1 := fwd_adv ht h (.inr (by rw [hl]; decide))
    unfold choiceF at he
    split at he
    · cases he
    · rename_i e1
      have s2 := hx _ _ _ s1.2 e1
      split at he
      · cases he
      · rename_i e2
        have s3 := hx _ _ _ s2.2 e2
        split at he
        · cases he
        · rename_i e3
          cases he
          exact ((s1.trans s2).trans s3).trans (hx _ _ _ s3.2 e3)
  · unfold infixF at he
    split at he
    · cases he
    · rename_i a p1 e1
      have s1 := hx _ _ _ h e1
      split at he
      · rename_i hl
        have s2 := fwd_adv ht s1.2 (.inr (by rw [hl.2]; decide))
        unfold delayF at he
        split at he
        · cases he
        · rename_i e2
          cases he
          have s3 := hx _ _ _ (by exact s2.2) e2
          exact (s1.trans s2).trans s3
      · unfold infixRest at he
        split at he
        · cases he
        · rename_i op ho
          have s2 := fwd_adv ht s1.2 (.inr (by intro e; rw [e] at ho; simp [opOf] at ho))
          split at he
          · cases he
          · rename_i e2
            cases he
            exact (s1.trans s2).trans (hx _ _ _ s2.2 e2)

theorem bracketM {ts : List Tk} (ht : TsOk ts) {ex : Ex} (hx : ExM ts ex) {p p' : PS} {r : Nat} (h : p.next < ts.length) (hl : (p.hd ts).l = [40]) (he : bracketF ts ex p = .ok (r, p')) : Fwd ts p p' := by
  unfold bracketF at he
  have s1 : Fwd ts p ((p.add ts ndZero).adv ts) := fwd_adv ht (p := p.add ts ndZero) h (.inr (by show (p.hd ts).l ≠ []; rw [hl]; decide))
  split at he
  · cases he
  · rename_i n p2 e2
    have s2 := insideM ht hx (p := { (p.add ts ndZero).adv ts with depth := p.depth + 1 }) s1.2 e2
    split at he
    · cases he
    · rename_i p3 e3
      obtain ⟨rfl, hl3⟩ := take_grow e3
      cases he
      have s3 := fwd_adv ht (p := { p2 with depth := p2.depth - 1, nodes := p2.nodes.set p.nodes.length n }) s2.2 (.inr (by rw [hl3]; decide))
      exact (s1.trans s2).trans s3

theorem exprM {ts : List Tk} (ht : TsOk ts) : ∀ f, ExM ts (exprF ts f) := by
  have hatom : ∀ (p : PS) (br : Except Nat (Nat × PS)) (r : Nat) (p' : PS), p.next < ts.length → ((p.hd ts).l = [40] → ∀ r p', br = .ok (r, p') → Fwd ts p p') → atomF ts p br = .ok (r, p') → Fwd ts p p' := by
    intro p br r p' h hbr he
    have leaf : ∀ n, (p.hd ts).kind ≠ 0 ∨ (p.hd ts).l ≠ [] → Fwd ts p (leafF ts p n).2 := fun n hk => fwd_adv ht (p := p.add ts n) h hk
    unfold atomF at he
    split at he
    · rename_i hl; exact hbr hl _ _ he
    split at he
    · rename_i hl; cases he; exact leaf _ (.inr (by rw [hl]; decide))
    split at he
    · rename_i hl; cases he; exact leaf _ (.inr (by rw [hl]; decide))
    split at he
    · rename_i hl; cases he; exact leaf _ (.inl (by rw [hl]; decide))
    split at he
    · rename_i hl; cases he; exact leaf _ (.inl (by rw [hl]; decide))
    · cases he
  intro f
  induction f with
  | zero => intro p r p' h he; exact hatom p _ r p' h (fun _ _ _ h => by cases h) he
  | succ f ih => intro p r p' h he; exact hatom p _ r p' h (fun hl _ _ e => bracketM ht ih h hl e) he

/-- the words that are no names and no numbers. -/
def kwL : List (List UInt8) := [[40], [41], [59], [61], [43], [45], [42], [47], [60], [38], [124], kIn, kInt, kBool, kAt, kIf, kFby, kNot, kTrue, kFalse]

/-- the same tokens ahead of k, and at k one that stands nowhere. -/
structure CutTs (k : Nat) (ts ts' : List Tk) : Prop where
  ok : TsOk ts
  lt : k < ts.length
  lt' : k < ts'.length
  same : ∀ i, i < k → tkAt ts' i = tkAt ts i
  kind1 : (tkAt ts' k).kind ≠ 1
  kind3 : (tkAt ts' k).kind ≠ 3
  word : kwL.contains (tkAt ts' k).l = false

/-- what became of a part that was read well. -/
def CutTo {α : Type} (k : Nat) (q : PS) (a : α) (y : Except Nat α) : Prop := (q.next ≤ k ∧ y = .ok a) ∨ (k < q.next ∧ y = .error k)
def ExC (k : Nat) (ex ex' : Ex) : Prop := ∀ p r p', p.next ≤ k → ex p = .ok (r, p') → CutTo k p' (r, p') (ex' p)
def ExB (k : Nat) (ex' : Ex) : Prop := ∀ p, p.next = k → ex' p = .error k

section
variable {k : Nat} {ts ts' : List Tk}

theorem CutTs.no (hc : CutTs k ts ts') {l : List UInt8} (h1 : kwL.contains l = true) : (tkAt ts' k).l ≠ l := by
  intro e
  have := hc.word
  rw [e, h1] at this
  cases this
theorem CutTs.noOp (hc : CutTs k ts ts') : opOf (tkAt ts' k).l = none := by
  unfold opOf
  rw [if_neg (hc.no (by decide)), if_neg (hc.no (by decide)), if_neg (hc.no (by decide)), if_neg (hc.no (by decide)), if_neg (hc.no (by decide)), if_neg (hc.no (by decide)), if_neg (hc.no (by decide)), if_neg (hc.no (by decide))]
theorem CutTs.hd (hc : CutTs k ts ts') {p : PS} (h : p.next < k) : p.hd ts' = p.hd ts := hc.same _ h
theorem CutTs.adv (hc : CutTs k ts ts') {p : PS} (h : p.next < k) : p.adv ts' = p.adv ts ∧ (p.adv ts).next = p.next + 1 := by
  have h1 := hc.lt
  have h2 := hc.lt'
  unfold PS.adv
  rw [if_pos (by omega), if_pos (by omega)]
  exact ⟨rfl, rfl⟩
theorem CutTs.add (hc : CutTs k ts ts') {p : PS} (h : p.next < k) (n : Nd) : p.add ts' n = p.add ts n := by
  unfold PS.add
  rw [hc.hd h, hc.same (p.next - 1) (by omega)]
theorem CutTs.take (hc : CutTs k ts ts') {p q : PS} (h : p.next ≤ k) {l : List UInt8} (h1 : l ≠ []) (h2 : kwL.contains l = true) (he : p.take ts l = .ok q) : CutTo k q q (p.take ts' l) := by
  obtain ⟨rfl, hl⟩ := take_grow he
  by_cases hp : p.next < k
  · refine .inl ⟨by rw [(hc.adv hp).2]; omega, ?_⟩
    unfold PS.take
    rw [hc.hd hp, if_pos hl, (hc.adv hp).1]
  · have e : p.next = k := by omega
    have hf := fwd_adv hc.ok (p := p) (by rw [e]; exact hc.lt) (.inr (by rw [hl]; exact h1))
    refine .inr ⟨by rw [← e]; exact hf.1, ?_⟩
    unfold PS.take
    rw [if_neg (by show (tkAt ts' p.next).l ≠ l; rw [e]; exact hc.no h2), e]

theorem insideB (hc : CutTs k ts ts') {ex' : Ex} (hb : ExB k ex') {p : PS} {n : Nd} (h : p.next = k) : insideF ts' ex' p n = .error k := by
  unfold insideF
  have hh : p.hd ts' = tkAt ts' k := by unfold PS.hd; rw [h]
  rw [hh, if_neg (hc.no (by decide)), if_neg (hc.no (by decide))]
  unfold infixF
  rw [hb p h]

theorem insideC (hc : CutTs k ts ts') {ex ex' : Ex} (hx : ExC k ex ex') (hb : ExB k ex') (hm : ExM ts ex) {p p' : PS} {n n' : Nd} (hp : p.next ≤ k) (he : insideF ts ex p n = .ok (n', p')) : CutTo k p' (n', p') (insideF ts' ex' p n) := by
  have hlt := hc.lt
  have hf := insideM hc.ok hm (p := p) (by omega) he
  by_cases hpk' : p.next = k
  · exact .inr ⟨by have := hf.1; omega, insideB hc hb hpk'⟩
  have hpk : p.next < k := by omega
  obtain ⟨ha1, ha2⟩ := hc.adv hpk
  have hh := hc.hd hpk
  unfold insideF at he ⊢
  rw [hh]
  split at he
  · rename_i hl
    rw [if_pos hl]
    unfold notF at he ⊢
    rw [ha1]
    split at he
    · cases he
    · rename_i a p1 e1
      cases he
      rcases hx _ _ _ (by omega) e1 with ⟨h1, h2⟩ | ⟨h1, h2⟩
      · rw [h2]; exact .inl ⟨h1, rfl⟩
      · rw [h2]; exact .inr ⟨h1, rfl⟩
  rename_i hl0
  rw [if_neg hl0]
  split at he
  · rename_i hl
    rw [if_pos hl]
    unfold choiceF at he ⊢
    rw [ha1]
    split at he
    · cases he
    · rename_i a p1 e1
      have hlt1 := hm _ _ _ (by omega) e1
      split at he
      · cases he
      · rename_i b p2 e2
        have hlt2 := hm _ _ _ hlt1.2 e2
        split at he
        · cases he
        · rename_i c p3 e3
          have hlt3 := hm _ _ _ hlt2.2 e3
          cases he
          have a1 := hlt1.1
          have a2 := hlt2.1
          have a3 := hlt3.1
          rcases hx _ _ _ (by omega) e1 with ⟨h1, h2⟩ | ⟨h1, h2⟩
          · rw [h2]
            simp only
            rcases hx _ _ _ h1 e2 with ⟨h3, h4⟩ | ⟨h3, h4⟩
            · rw [h4]
              simp only
              rcases hx _ _ _ h3 e3 with ⟨h5, h6⟩ | ⟨h5, h6⟩
              · rw [h6]; exact .inl ⟨h5, rfl⟩
              · rw [h6]; exact .inr ⟨h5, rfl⟩
            · rw [h4]; exact .inr ⟨by omega, rfl⟩
          · rw [h2]; exact .inr ⟨by omega, rfl⟩
  rename_i hl1
  rw [if_neg hl1]
  unfold infixF at he ⊢
  split at he
  · cases he
  · rename_i a p1 e1
    have hlt1 := hm _ _ _ (by omega) e1
    have a1 := hlt1.1
    split at he
    · rename_i hl
      have hlt2 := fwd_adv hc.ok hlt1.2 (.inr (by rw [hl.2]; decide))
      have a2 := hlt2.1
      unfold delayF at he
      split at he
      · cases he
      · rename_i b p2 e2
        have hlt3 := hm { p1.adv ts with delays := (p1.adv ts).delays + 1 } _ _ hlt2.2 e2
        have a3 : (p1.adv ts).next < p2.next := hlt3.1
        cases he
        show CutTo k { p2 with delays := p2.delays - 1 } _ _
        rcases hx _ _ _ hp e1 with ⟨h1, h2⟩ | ⟨h1, h2⟩
        · rw [h2]
          simp only
          by_cases hk1 : p1.next < k
          · obtain ⟨b1, b2⟩ := hc.adv hk1
            rw [hc.hd hk1, if_pos hl, b1]
            unfold delayF
            rcases hx _ _ _ (by show (p1.adv ts).next ≤ k; omega) e2 with ⟨h5, h6⟩ | ⟨h5, h6⟩
            · rw [h6]; exact .inl ⟨h5, rfl⟩
            · rw [h6]; exact .inr ⟨h5, rfl⟩
          · have e : p1.next = k := by omega
            have hh' : p1.hd ts' = tkAt ts' k := by unfold PS.hd; rw [e]
            refine .inr ⟨by show k < p2.next; omega, ?_⟩
            rw [hh', if_neg (fun x => hc.no (by decide) x.2)]
            unfold infixRest
            rw [hh']
            have ho := hc.noOp
            rw [ho, e]
        · rw [h2]; exact .inr ⟨by show k < p2.next; omega, rfl⟩
    · rename_i hl
      unfold infixRest at he
      split at he
      · cases he
      · rename_i op ho
        have hlt2 := fwd_adv hc.ok hlt1.2 (.inr (by intro e; rw [e] at ho; simp [opOf] at ho))
        have a2 := hlt2.1
        split at he
        · cases he
        · rename_i b p2 e2
          have hlt3 := hm _ _ _ hlt2.2 e2
          have a3 : (p1.adv ts).next < p2.next := hlt3.1
          cases he
          rcases hx _ _ _ hp e1 with ⟨h1, h2⟩ | ⟨h1, h2⟩
          · rw [h2]
            simp only
            by_cases hk1 : p1.next < k
            · obtain ⟨b1, b2⟩ := hc.adv hk1
              rw [hc.hd hk1, if_neg hl]
              unfold infixRest
              rw [hc.hd hk1, ho, b1]
              simp only
              rcases hx _ _ _ (by omega) e2 with ⟨h5, h6⟩ | ⟨h5, h6⟩
              · rw [h6]; exact .inl ⟨h5, rfl⟩
              · rw [h6]; exact .inr ⟨h5, rfl⟩
            · have e : p1.next = k := by omega
              have hh' : p1.hd ts' = tkAt ts' k := by unfold PS.hd; rw [e]
              refine .inr ⟨by omega, ?_⟩
              rw [hh', if_neg (fun x => hc.no (by decide) x.2)]
              unfold infixRest
              rw [hh']
              have ho := hc.noOp
              rw [ho, e]
          · rw [h2]; exact .inr ⟨by omega, rfl⟩

theorem bracketC (hc : CutTs k ts ts') {ex ex' : Ex} (hx : ExC k ex ex') (hb : ExB k ex') (hm : ExM ts ex) {p p' : PS} {r : Nat} (hp : p.next < k) (he : bracketF ts ex p = .ok (r, p')) : CutTo k p' (r, p') (bracketF ts' ex' p) := by
  have hlt := hc.lt
  have hadd := hc.add hp ndZero
  obtain ⟨b1, b2⟩ := hc.adv (p := p.add ts ndZero) hp
  unfold bracketF at he ⊢
  rw [hadd, b1]
  split at he
  · cases he
  · rename_i n p2 e2
    have hle : ({ (p.add ts ndZero).adv ts with depth := p.depth + 1 } : PS).next ≤ k := by show ((p.add ts ndZero).adv ts).next ≤ k; rw [b2]; exact hp
    have hf := insideM hc.ok hm (p := { (p.add ts ndZero).adv ts with depth := p.depth + 1 }) (by omega) e2
    split at he
    · cases he
    · rename_i p3 e3
      cases he
      have hf3 : p2.next < p'.next := by
        obtain ⟨rfl, hl3⟩ := take_grow e3
        exact (fwd_adv hc.ok (p := { p2 with depth := p2.depth - 1, nodes := p2.nodes.set p.nodes.length n }) hf.2 (.inr (by rw [hl3]; decide))).1
      rcases insideC hc hx hb hm hle e2 with ⟨h1, h2⟩ | ⟨h1, h2⟩
      · rw [h2]
        simp only
        rcases hc.take (p := { p2 with depth := p2.depth - 1, nodes := p2.nodes.set p.nodes.length n }) h1 (by decide) (by decide) e3 with ⟨h3, h4⟩ | ⟨h3, h4⟩
        · rw [h4]; exact .inl ⟨h3, rfl⟩
        · rw [h4]; exact .inr ⟨h3, rfl⟩
      · rw [h2]; exact .inr ⟨by omega, rfl⟩

theorem exprB (hc : CutTs k ts ts') : ∀ f, ExB k (exprF ts' f) := by
  intro f p h
  have hat : ∀ br, atomF ts' p br = .error k := by
    intro br
    have hh : p.hd ts' = tkAt ts' k := by unfold PS.hd; rw [h]
    unfold atomF
    rw [hh, if_neg (hc.no (by decide)), if_neg (hc.no (by decide)), if_neg (hc.no (by decide)), if_neg hc.kind3, if_neg hc.kind1, h]
  cases f with
  | zero => exact hat _
  | succ f => exact hat _

theorem exprC (hc : CutTs k ts ts') : ∀ f, ExC k (exprF ts f) (exprF ts' f) := by
  have hatom : ∀ (p : PS) (br br' : Except Nat (Nat × PS)) (r : Nat) (p' : PS), p.next < k → ((p.hd ts).l = [40] → ∀ r p', br = .ok (r, p') → CutTo k p' (r, p') br') → atomF ts p br = .ok (r, p') → CutTo k p' (r, p') (atomF ts' p br') := by
    intro p br br' r p' hp hbr he
    have leaf : ∀ n, CutTo k (leafF ts p n).2 (leafF ts p n) (.ok (leafF ts' p n)) := by
      intro n
      obtain ⟨b1, b2⟩ := hc.adv (p := p.add ts n) hp
      have e : leafF ts' p n = leafF ts p n := by unfold leafF; rw [hc.add hp, b1]
      rw [e]
      refine .inl ⟨?_, rfl⟩
      show ((p.add ts n).adv ts).next ≤ k
      rw [b2]; exact hp
    unfold atomF at he ⊢
    rw [hc.hd hp]
    split at he
    · rename_i hl; rw [if_pos hl]; exact hbr hl _ _ he
    rename_i h1; rw [if_neg h1]
    split at he
    · rename_i hl; rw [if_pos hl]; cases he; exact leaf _
    rename_i h1; rw [if_neg h1]
    split at he
    · rename_i hl; rw [if_pos hl]; cases he; exact leaf _
    rename_i h1; rw [if_neg h1]
    split at he
    · rename_i hl; rw [if_pos hl]; cases he; exact leaf _
    rename_i h1; rw [if_neg h1]
    split at he
    · rename_i hl; rw [if_pos hl]; cases he; exact leaf _
    · cases he
  intro f
  induction f with
  | zero =>
    intro p r p' hp he
    by_cases e : p.next = k
    · exact .inr ⟨by have := exprM hc.ok 0 p r p' (by have := hc.lt; omega) he; have := this.1; omega, exprB hc 0 p e⟩
    · exact hatom p _ _ r p' (by omega) (fun _ _ _ h => by cases h) he
  | succ f ih =>
    intro p r p' hp he
    by_cases e : p.next = k
    · exact .inr ⟨by have := exprM hc.ok (f + 1) p r p' (by have := hc.lt; omega) he; have := this.1; omega, exprB hc (f + 1) p e⟩
    · exact hatom p _ _ r p' (by omega) (fun _ _ _ h => bracketC hc ih (exprB hc f) (exprM hc.ok f) (by omega) h) he

end
end Go.Proofs.Ytmndgoapkmhglab

/- Plain mathematics: declarations, and a token that stands nowhere. -/
namespace Go.Proofs.Ytmndgoapkmhglab

theorem place_fwd {ts : List Tk} (ht : TsOk ts) {p p' : PS} {r : Nat} (h : p.next < ts.length) (he : placeF ts p = .ok (r, p')) : Fwd ts p p' := by
  unfold placeF at he
  split at he
  · rename_i hk; cases he; exact fwd_adv ht h (.inl (by rw [hk.1]; decide))
  · cases he

theorem take_fwd {ts : List Tk} (ht : TsOk ts) {p p' : PS} {l : List UInt8} (hl : l ≠ []) (h : p.next < ts.length) (he : p.take ts l = .ok p') : Fwd ts p p' := by
  obtain ⟨rfl, e⟩ := take_grow he
  exact fwd_adv ht h (.inr (by rw [e]; exact hl))

/-- a declaration ends behind a ; -/
theorem take_prev {ts : List Tk} (ht : TsOk ts) {p p' : PS} {l : List UInt8} (hl : l ≠ []) (h : p.next < ts.length) (he : p.take ts l = .ok p') : (tkAt ts (p'.next - 1)).l = l := by
  obtain ⟨rfl, e⟩ := take_grow he
  rw [adv_next ht h (.inr (by rw [e]; exact hl))]
  exact e

theorem declarationM {ts : List Tk} (ht : TsOk ts) {p p' : PS} (h : p.next < ts.length) (he : declarationF ts p = .ok p') : Fwd ts p p' ∧ (tkAt ts (p'.next - 1)).l = [59] := by
  have inp : (p.hd ts).l ≠ [] → inputF ts p = .ok p' → Fwd ts p p' ∧ (tkAt ts (p'.next - 1)).l = [59] := by
    intro hl he
    have s1 := fwd_adv ht h (.inr hl)
    unfold inputF at he
    split at he
    · rename_i hk
      have s2 := fwd_adv ht s1.2 (.inl (by rw [hk]; decide))
      have s3 := take_fwd ht (p := ((p.adv ts).adv ts).declare _) (by decide) s2.2 he
      exact ⟨(s1.trans s2).trans s3, take_prev ht (p := ((p.adv ts).adv ts).declare _) (by decide) s2.2 he⟩
    · cases he
  have eqn : ∀ kind, (p.hd ts).l ≠ [] → equationF ts kind p = .ok p' → Fwd ts p p' ∧ (tkAt ts (p'.next - 1)).l = [59] := by
    intro kind hl he
    have s1 := fwd_adv ht h (.inr hl)
    unfold equationF at he
    split at he
    · rename_i hk
      have s2 := fwd_adv ht s1.2 (.inl (by rw [hk]; decide))
      split at he
      · cases he
      rename_i p3 e3
      have s3 := take_fwd ht (by decide) s2.2 e3
      split at he
      · cases he
      rename_i pl p4 e4
      have s4 := place_fwd ht s3.2 e4
      split at he
      · cases he
      rename_i p5 e5
      have s5 := take_fwd ht (by decide) s4.2 e5
      split at he
      · cases he
      rename_i r p6 e6
      have s6 := exprM ht 16 _ _ _ s5.2 e6
      have s7 := take_fwd ht (p := p6.declare _) (by decide) s6.2 he
      exact ⟨(((((s1.trans s2).trans s3).trans s4).trans s5).trans s6).trans s7, take_prev ht (p := p6.declare _) (by decide) s6.2 he⟩
    · cases he
  unfold declarationF at he
  split at he
  · rename_i hl; exact inp (by rw [hl]; decide) he
  split at he
  · rename_i hl; exact eqn 1 (by rw [hl]; decide) he
  split at he
  · rename_i hl; exact eqn 2 (by rw [hl]; decide) he
  · cases he

section
variable {k : Nat} {ts ts' : List Tk}

theorem CutTs.place (hc : CutTs k ts ts') {p p' : PS} {r : Nat} (h : p.next ≤ k) (he : placeF ts p = .ok (r, p')) : CutTo k p' (r, p') (placeF ts' p) := by
  have hf := place_fwd hc.ok (by have := hc.lt; omega) he
  by_cases hp : p.next = k
  · refine .inr ⟨by have := hf.1; omega, ?_⟩
    have hh : p.hd ts' = tkAt ts' k := by unfold PS.hd; rw [hp]
    unfold placeF
    rw [hh, if_neg (fun x => hc.kind3 x.1), hp]
  · have hp' : p.next < k := by omega
    unfold placeF at he ⊢
    rw [hc.hd hp']
    split at he
    · rename_i hk
      cases he
      rw [if_pos hk, (hc.adv hp').1]
      exact .inl ⟨by rw [(hc.adv hp').2]; omega, rfl⟩
    · cases he

theorem declarationB (hc : CutTs k ts ts') {p : PS} (h : p.next = k) : declarationF ts' p = .error k := by
  have hh : p.hd ts' = tkAt ts' k := by unfold PS.hd; rw [h]
  unfold declarationF
  rw [hh, if_neg (hc.no (by decide)), if_neg (hc.no (by decide)), if_neg (hc.no (by decide)), h]

theorem declarationC (hc : CutTs k ts ts') {p p' : PS} (hp : p.next ≤ k) (he : declarationF ts p = .ok p') : CutTo k p' p' (declarationF ts' p) := by
  have hlt := hc.lt
  have hf := (declarationM hc.ok (by omega) he).1
  by_cases hpk' : p.next = k
  · exact .inr ⟨by have := hf.1; omega, declarationB hc hpk'⟩
  have hpk : p.next < k := by omega
  obtain ⟨ha1, ha2⟩ := hc.adv hpk
  have hh := hc.hd hpk
  have hq : (p.adv ts).next ≤ k := by omega
  -- the name
  have name : ∀ (F F' : Except Nat PS), (((p.adv ts).hd ts).kind = 1) → ((p.adv ts).next < k → CutTo k p' p' F') → CutTo k p' p' (if ((p.adv ts).hd ts').kind = 1 then F' else .error (p.adv ts).next) := by
    intro F F' hk hF
    by_cases e : (p.adv ts).next = k
    · have hh' : (p.adv ts).hd ts' = tkAt ts' k := by unfold PS.hd; rw [e]
      rw [hh', if_neg hc.kind1, e]
      refine .inr ⟨?_, rfl⟩
      -- more than the name was used up
      have s1 := ha2
      unfold declarationF at he
      have hmore : (p.adv ts).next < p'.next := by
        split at he
        · unfold inputF at he
          rw [if_pos hk] at he
          have s2 := fwd_adv hc.ok (p := p.adv ts) (by omega) (.inl (by rw [hk]; decide))
          have s3 := take_fwd hc.ok (p := ((p.adv ts).adv ts).declare _) (by decide) s2.2 he
          exact (s2.trans s3).1
        have eqn : ∀ kind, equationF ts kind p = .ok p' → (p.adv ts).next < p'.next := by
          intro kind he
          unfold equationF at he
          rw [if_pos hk] at he
          have s2 := fwd_adv hc.ok (p := p.adv ts) (by omega) (.inl (by rw [hk]; decide))
          split at he
          · cases he
          rename_i p3 e3
          have s3 := take_fwd hc.ok (by decide) s2.2 e3
          split at he
          · cases he
          rename_i pl p4 e4
          have s4 := place_fwd hc.ok s3.2 e4
          split at he
          · cases he
          rename_i p5 e5
          have s5 := take_fwd hc.ok (by decide) s4.2 e5
          split at he
          · cases he
          rename_i r p6 e6
          have s6 := exprM hc.ok 16 _ _ _ s5.2 e6
          have s7 := take_fwd hc.ok (p := p6.declare _) (by decide) s6.2 he
          exact (((((s2.trans s3).trans s4).trans s5).trans s6).trans s7).1
        split at he
        · exact eqn _ he
        split at he
        · exact eqn _ he
        · cases he
      omega
    · have hk' : (p.adv ts).next < k := by omega
      rw [hc.hd hk', if_pos hk]
      exact hF hk'
  have eqn : ∀ kind, equationF ts kind p = .ok p' → CutTo k p' p' (equationF ts' kind p) := by
    intro kind he
    unfold equationF at he ⊢
    rw [ha1]
    split at he
    · rename_i hk
      refine name (.error 0) _ hk ?_
      intro hk'
      obtain ⟨b1, b2⟩ := hc.adv hk'
      have s2 : Fwd ts (p.adv ts) ((p.adv ts).adv ts) := fwd_adv hc.ok (by omega) (.inl (by rw [hk]; decide))
      rw [b1, hc.hd hk']
      split at he
      · cases he
      rename_i p3 e3
      have s3 := take_fwd hc.ok (by decide) s2.2 e3
      split at he
      · cases he
      rename_i pl p4 e4
      have s4 := place_fwd hc.ok s3.2 e4
      split at he
      · cases he
      rename_i p5 e5
      have s5 := take_fwd hc.ok (by decide) s4.2 e5
      split at he
      · cases he
      rename_i r p6 e6
      have s6 := exprM hc.ok 16 _ _ _ s5.2 e6
      have s7 : p6.next < p'.next := (take_fwd hc.ok (p := p6.declare _) (by decide) s6.2 he).1
      have t3 := s3.1
      have t4 := s4.1
      have t5 := s5.1
      have t6 := s6.1
      rcases hc.take (by omega) (by decide) (by decide) e3 with ⟨h1, h2⟩ | ⟨h1, h2⟩
      · rw [h2]
        simp only
        rcases hc.place h1 e4 with ⟨h3, h4⟩ | ⟨h3, h4⟩
        · rw [h4]
          simp only
          rcases hc.take h3 (by decide) (by decide) e5 with ⟨h5, h6⟩ | ⟨h5, h6⟩
          · rw [h6]
            simp only
            rcases exprC hc 16 _ _ _ h5 e6 with ⟨h7, h8⟩ | ⟨h7, h8⟩
            · rw [h8]
              simp only
              exact hc.take (p := p6.declare _) h7 (by decide) (by decide) he
            · rw [h8]; exact .inr ⟨by omega, rfl⟩
          · rw [h6]; exact .inr ⟨by omega, rfl⟩
        · rw [h4]; exact .inr ⟨by omega, rfl⟩
      · rw [h2]; exact .inr ⟨by omega, rfl⟩
    · cases he
  unfold declarationF at he ⊢
  rw [hh]
  split at he
  · rename_i hl
    rw [if_pos hl]
    unfold inputF at he ⊢
    rw [ha1]
    split at he
    · rename_i hk
      refine name (.error 0) _ hk ?_
      intro hk'
      obtain ⟨b1, b2⟩ := hc.adv hk'
      rw [b1, hc.hd hk']
      exact hc.take (p := ((p.adv ts).adv ts).declare _) (by show ((p.adv ts).adv ts).next ≤ k; omega) (by decide) (by decide) he
    · cases he
  rename_i hl0; rw [if_neg hl0]
  split at he
  · rename_i hl; rw [if_pos hl]; exact eqn _ he
  rename_i hl1; rw [if_neg hl1]
  split at he
  · rename_i hl; rw [if_pos hl]; exact eqn _ he
  · cases he

theorem declsC (hc : CutTs k ts ts') (hdis : (tkAt ts' k).kind ≠ 0 ∨ ((tkAt ts k).kind ≠ 0 ∧ (tkAt ts k).l = [59])) : ∀ f f' p p', p.next ≤ k → ts'.length ≤ f' + p.next → declsF ts f p = .ok p' → (p'.hd ts).kind = 0 → k ≤ p'.next → declsF ts' f' p = .error k := by
  have hlt' := hc.lt'
  have hlt := hc.lt
  have atK : ∀ f' p, p.next = k → (tkAt ts' k).kind ≠ 0 → ts'.length ≤ f' + p.next → declsF ts' f' p = .error k := by
    intro f' p e hk hf
    cases f' with
    | zero => omega
    | succ f' =>
      have hh : p.hd ts' = tkAt ts' k := by unfold PS.hd; rw [e]
      unfold declsF
      rw [hh, if_neg hk, declarationB hc e]
  intro f
  induction f with
  | zero =>
    intro f' p p' hp hf he hk hkp
    cases he
    have e : p.next = k := by omega
    rcases hdis with h | ⟨h, _⟩
    · exact atK f' p e h hf
    · exact absurd hk (by show (tkAt ts p.next).kind ≠ 0; rw [e]; exact h)
  | succ f ih =>
    intro f' p p' hp hf he hk hkp
    unfold declsF at he
    split at he
    · rename_i hz
      cases he
      have e : p.next = k := by omega
      rcases hdis with h | ⟨h, _⟩
      · exact atK f' p e h hf
      · exact absurd hk (by show (tkAt ts p.next).kind ≠ 0; rw [e]; exact h)
    · rename_i hz
      split at he
      · cases he
      · rename_i q e1
        have s1 := (declarationM hc.ok (by omega) e1).1
        have t1 := s1.1
        by_cases e : p.next = k
        · rcases hdis with h | ⟨_, h⟩
          · exact atK f' p e h hf
          · exfalso
            have hh : p.hd ts = tkAt ts k := by unfold PS.hd; rw [e]
            unfold declarationF at e1
            rw [hh, h, if_neg (by decide), if_neg (by decide), if_neg (by decide)] at e1
            cases e1
        · have hpk : p.next < k := by omega
          cases f' with
          | zero => omega
          | succ f' =>
            unfold declsF
            rw [hc.hd hpk, if_neg hz]
            rcases declarationC hc hp e1 with ⟨h1, h2⟩ | ⟨h1, h2⟩
            · rw [h2]
              exact ih f' q p' h1 (by omega) he hk hkp
            · rw [h2]

theorem declsEnd (ht : TsOk ts) : ∀ f p p', p.next < ts.length → ts.length ≤ f + p.next → declsF ts f p = .ok p' → (p'.hd ts).kind = 0 ∧ p'.next < ts.length ∧ (p' = p ∨ (tkAt ts (p'.next - 1)).l = [59]) := by
  intro f
  induction f with
  | zero => intro p p' h hf he; omega
  | succ f ih =>
    intro p p' h hf he
    unfold declsF at he
    split at he
    · rename_i hz; cases he; exact ⟨hz, h, .inl rfl⟩
    · split at he
      · cases he
      · rename_i q e1
        obtain ⟨s1, s2⟩ := declarationM ht h e1
        have t1 := s1.1
        obtain ⟨h1, h2, h3⟩ := ih q p' s1.2 (by omega) he
        refine ⟨h1, h2, .inr ?_⟩
        rcases h3 with rfl | h3
        · exact s2
        · exact h3
end
end Go.Proofs.Ytmndgoapkmhglab

/- Plain mathematics: blanks behind signs; a text with a byte behind it; a text cut short; a text laid out. -/
namespace Go.Proofs.Ytmndgoapkmhglab

def sgn (c : UInt8) : Bool := c == 40 || c == 41 || c == 59 || c == 61
def gapB (i : Nat) : UInt8 := if i % 2 = 0 then 32 else 10
def wideL : Nat → List UInt8 → List UInt8
  | _, [] => []
  | i, c :: r => if sgn c then c :: gapB i :: wideL (i + 1) r else c :: wideL (i + 1) r
def mv (l : List UInt8) (a : Nat) : Nat := a + ((l.take a).filter sgn).length

theorem sgn_cls {c : UInt8} (h : sgn c = true) : cls c.toNat = 3 := by
  unfold sgn at h
  simp at h
  rcases h with ((h | h) | h) | h <;> subst h <;> decide
theorem gap_cls (i : Nat) : cls (gapB i).toNat = 0 := by
  unfold gapB; split <;> decide

theorem mv_cons (c : UInt8) (r : List UInt8) (j : Nat) : mv (c :: r) (j + 1) = mv r j + 1 + (if sgn c then 1 else 0) := by
  unfold mv
  rw [List.take_succ_cons, List.filter_cons]
  split
  · simp; omega
  · simp; omega

theorem wideL_cons (i : Nat) (c : UInt8) (r : List UInt8) : wideL i (c :: r) = if sgn c then c :: gapB i :: wideL (i + 1) r else c :: wideL (i + 1) r := rfl

theorem wide_tw {cl : Nat} (hcl : cl = 1 ∨ cl = 2) : ∀ (r : List UInt8) (i : Nat), (wideL i r).takeWhile (W cl) = r.takeWhile (W cl) ∧ (wideL i r).dropWhile (W cl) = wideL (i + (r.takeWhile (W cl)).length) (r.dropWhile (W cl)) := by
  intro r
  induction r with
  | nil => intro i; exact ⟨rfl, rfl⟩
  | cons c r ih =>
    intro i
    rw [wideL_cons]
    by_cases hs : sgn c = true
    · have hw : W cl c = false := by unfold W; rw [sgn_cls hs]; rcases hcl with h | h <;> rw [h] <;> rfl
      rw [if_pos hs]
      simp only [List.takeWhile_cons, List.dropWhile_cons, hw]
      refine ⟨rfl, ?_⟩
      simp [wideL, hs]
    · rw [if_neg hs]
      simp only [List.takeWhile_cons, List.dropWhile_cons]
      by_cases hw : W cl c = true
      · simp only [hw, if_true]
        obtain ⟨h1, h2⟩ := ih (i + 1)
        rw [h1, h2]
        refine ⟨rfl, ?_⟩
        simp only [List.length_cons]
        rw [show i + 1 + (r.takeWhile (W cl)).length = i + ((r.takeWhile (W cl)).length + 1) by omega]
      · simp only [hw]
        refine ⟨rfl, ?_⟩
        simp [wideL, hs]

theorem wide_len : ∀ (l : List UInt8) i, (wideL i l).length = mv l l.length := by
  intro l
  induction l with
  | nil => intro i; rfl
  | cons c r ih =>
    intro i
    unfold wideL
    rw [List.length_cons, mv_cons]
    split
    · simp [ih]
    · simp [ih]

/-- the filter of the words of a run without signs. -/
theorem mv_run {cl : Nat} (hcl : cl = 1 ∨ cl = 2) : ∀ (r : List UInt8) (j : Nat), mv r ((r.takeWhile (W cl)).length + j) = (r.takeWhile (W cl)).length + mv (r.dropWhile (W cl)) j := by
  intro r
  induction r with
  | nil => intro j; simp
  | cons c r ih =>
    intro j
    rw [List.takeWhile_cons, List.dropWhile_cons]
    by_cases hw : W cl c = true
    · simp only [hw, if_true, List.length_cons]
      have hs : sgn c = false := by
        cases h : sgn c
        · rfl
        · unfold W at hw; rw [sgn_cls h] at hw; rcases hcl with e | e <;> rw [e] at hw <;> cases hw
      rw [show (r.takeWhile (W cl)).length + 1 + j = (r.takeWhile (W cl)).length + j + 1 by omega, mv_cons, ih j, hs]
      simp; omega
    · simp [hw]

def Moved1 (m : Nat → Nat) (t t' : Tk) : Prop := t'.kind = t.kind ∧ t'.text = t.text ∧ t'.pos = m t.pos

theorem wide_tk (m : Nat → Nat) : ∀ n k k' i (l : List UInt8), l.length = n → (∀ j, m (k + j) = k' + mv l j) → All2 (Moved1 m) (tk k l) (tk k' (wideL i l)) := by
  intro n
  induction n using Nat.strongRecOn with
  | _ n ih =>
    intro k k' i l hn hm
    have hm0 : m k = k' := by have := hm 0; simpa [mv] using this
    cases l with
    | nil => exact trivial
    | cons c r =>
      simp only [List.length_cons] at hn
      by_cases h0 : cls c.toNat = 0
      · have hs : sgn c = false := by cases h : sgn c; rfl; rw [sgn_cls h] at h0; cases h0
        unfold wideL
        rw [hs]
        simp only [Bool.false_eq_true, if_false]
        rw [tk_blank h0, tk_blank h0]
        refine ih r.length (by omega) _ _ _ r rfl ?_
        intro j
        have := hm (j + 1)
        rw [mv_cons, hs] at this
        rw [show k + 1 + j = k + (j + 1) by omega, this]
        simp; omega
      · by_cases h12 : cls c.toNat = 1 ∨ cls c.toNat = 2
        · have hs : sgn c = false := by cases h : sgn c; rfl; rw [sgn_cls h] at h12; omega
          unfold wideL
          rw [hs]
          simp only [Bool.false_eq_true, if_false]
          rw [tk_word h12, tk_word h12]
          obtain ⟨h1, h2⟩ := wide_tw h12 r (i + 1)
          rw [h1, h2]
          refine ⟨⟨rfl, rfl, hm0.symm⟩, ?_⟩
          have hl := take_drop_len (W (cls c.toNat)) r
          refine ih _ (by omega) _ _ _ _ rfl ?_
          intro j
          have := hm ((r.takeWhile (W (cls c.toNat))).length + j + 1)
          rw [mv_cons, hs, mv_run h12] at this
          rw [show k + 1 + (r.takeWhile (W (cls c.toNat))).length + j = k + ((r.takeWhile (W (cls c.toNat))).length + j + 1) by omega, this]
          simp; omega
        · have h3 : 3 ≤ cls c.toNat := by omega
          unfold wideL
          by_cases hs : sgn c = true
          · rw [if_pos hs, tk_one h3, tk_one h3, tk_blank (gap_cls i)]
            refine ⟨⟨rfl, rfl, hm0.symm⟩, ?_⟩
            refine ih r.length (by omega) _ _ _ r rfl ?_
            intro j
            have := hm (j + 1)
            rw [mv_cons, hs] at this
            rw [show k + 1 + j = k + (j + 1) by omega, this]
            simp; omega
          · rw [if_neg hs, tk_one h3, tk_one h3]
            refine ⟨⟨rfl, rfl, hm0.symm⟩, ?_⟩
            refine ih r.length (by omega) _ _ _ r rfl ?_
            intro j
            have := hm (j + 1)
            rw [mv_cons, if_neg hs] at this
            rw [show k + 1 + j = k + (j + 1) by omega, this]
            omega

def wideS (s : ByteArray) : ByteArray := ⟨(wideL 0 s.data.toList).toArray⟩
theorem size_list (s : ByteArray) : s.size = s.data.toList.length := Array.length_toList.symm

theorem wide_toks (s : ByteArray) : All2 (Moved1 (mv s.data.toList)) (toks s) (toks (wideS s)) := by
  rw [toks_list, toks_list]
  refine All2.app (wide_tk _ _ 0 0 0 _ rfl (fun j => by rw [Nat.zero_add, Nat.zero_add])) ⟨⟨rfl, rfl, ?_⟩, trivial⟩
  show (wideS s).size = mv s.data.toList s.size
  rw [size_list, size_list]
  show (wideL 0 s.data.toList).length = _
  exact wide_len _ 0

theorem TsDig.all {ts : List Tk} (h : TsDig ts) (i : Nat) : DigTok (tkAt ts i) := by
  by_cases hi : i < ts.length
  · exact h i hi
  · have : tkAt ts i = tkEnd := by unfold tkAt; rw [List.getD_eq_getElem?_getD, List.getElem?_eq_none (by omega)]; rfl
    rw [this]
    intro hk
    cases hk

theorem moved_at {m : Nat → Nat} (h0 : m 0 = 0) {ts ts' : List Tk} (h : All2 (Moved1 m) ts ts') (i : Nat) : Moved1 m (tkAt ts i) (tkAt ts' i) :=
  All2.getD (R := Moved1 m) ⟨rfl, rfl, h0.symm⟩ i h

theorem wide_tsR (s : ByteArray) : TsR (fun a b => b = mv s.data.toList a) (toks s) (toks (wideS s)) := by
  have h := wide_toks s
  refine ⟨h.len, fun i => ?_⟩
  obtain ⟨h1, h2, h3⟩ := moved_at (by rfl) h i
  have hd := (toks_dig s).all i
  refine ⟨h1, h3, fun _ => by unfold Tk.l; rw [h2], fun hk => ?_, fun _ => h2⟩
  have := (hd hk).2
  exact ⟨this, by unfold Tk.l; rw [h2]; exact this⟩

theorem wide_text (s : ByteArray) (hs : s.size ≤ 1500) (hs' : (wideS s).size ≤ 1500) : textF (wideS s) = ((textF s).1, mv s.data.toList (textF s).2) := by
  have h := textR (P := fun a b => b = mv s.data.toList a) rfl s (wideS s) hs hs' (wide_tsR s)
  exact Prod.ext h.1 h.2

/- what is laid out -/
def gapL (a b : List UInt8) : List UInt8 := if a = [59] then [10] else if a = [40] ∨ b = [41] ∨ b = [59] then [] else [32]
def trimL : List UInt8 → List UInt8
  | [] => []
  | [c] => [c]
  | c :: d :: r => if c = 48 then trimL (d :: r) else c :: d :: r
def bareL (t : Tk) : List UInt8 := if t.kind = 3 then trimL t.l else t.l
def pieceL (ts : List Tk) (j : Nat) : List UInt8 := (if j = 0 then [] else gapL (tkAt ts (j - 1)).l (tkAt ts j).l) ++ bareL (tkAt ts j)
def outN (ts : List Tk) : Nat → List UInt8
  | 0 => []
  | j + 1 => outN ts j ++ pieceL ts j
def outF (s : ByteArray) : ByteArray := ⟨(outN (toks s) (toks s).length).toArray⟩

theorem wide_out (s : ByteArray) : outF (wideS s) = outF s := by
  have h := wide_toks s
  unfold outF
  rw [h.len]
  have hp : ∀ j, pieceL (toks (wideS s)) j = pieceL (toks s) j := by
    intro j
    obtain ⟨a1, a2, _⟩ := moved_at (by rfl) h j
    obtain ⟨b1, b2, _⟩ := moved_at (by rfl) h (j - 1)
    unfold pieceL bareL Tk.l
    rw [a1, a2, b2]
  have ho : ∀ n, outN (toks (wideS s)) n = outN (toks s) n := by
    intro n
    induction n with
    | zero => rfl
    | succ n ih => unfold outN; rw [ih, hp]
  rw [ho]

/- a byte behind; a text cut short -/
theorem text_ok {s : ByteArray} (hs : s.size ≤ 1500) (h : (textF s).1 = 0) : ∃ p, parseF s = .ok p := by
  unfold textF at h
  rw [if_neg (by omega)] at h
  cases hp : parseF s with
  | error e => rw [hp] at h; cases h
  | ok p => exact ⟨p, rfl⟩

theorem tkAt_left {a b : List Tk} {i : Nat} (h : i < a.length) : tkAt (a ++ b) i = tkAt a i := by
  unfold tkAt; rw [List.getD_eq_getElem?_getD, List.getD_eq_getElem?_getD, List.getElem?_append_left h]
theorem tkAt_mid {a b : List Tk} {t : Tk} : tkAt (a ++ t :: b) a.length = t := by
  unfold tkAt; rw [List.getD_eq_getElem?_getD, List.getElem?_append_right (Nat.le_refl _)]; simp
theorem tkAt_mem {a : List Tk} {i : Nat} (h : i < a.length) : tkAt a i ∈ a := by
  unfold tkAt; rw [List.getD_eq_getElem?_getD, List.getElem?_eq_getElem h]; exact List.getElem_mem h

theorem end_at (s : ByteArray) (hs : s.size ≤ 1500) (p : PS) (h : parseF s = .ok p) : p.next = (tk 0 s.data.toList).length ∧ (p.hd (toks s)).kind = 0 ∧ (p = pZero ∨ (tkAt (toks s) (p.next - 1)).l = [59]) := by
  have ht := toks_ok s hs
  obtain ⟨h1, h2, h3⟩ := declsEnd ht _ _ _ (pZero_wf ht).next (by simp) h
  refine ⟨?_, h1, h3⟩
  rw [toks_list] at h1 h2
  simp at h2
  by_cases e : p.next < (tk 0 s.data.toList).length
  · exfalso
    unfold PS.hd at h1
    rw [tkAt_left e] at h1
    exact (tk_kind _ _ _ rfl _ (tkAt_mem e)).1 h1
  · omega

theorem hash_text (s s' : ByteArray) (hs : s.size < 1500) (h : (textF s).1 = 0) (hl : s'.data.toList = s.data.toList ++ [35]) : textF s' = (2, s.size) := by
  have hs' : s'.size ≤ 1500 := by rw [size_list, hl, List.length_append, ← size_list]; simp; omega
  obtain ⟨p, hp⟩ := text_ok (by omega) h
  obtain ⟨h1, h2, _⟩ := end_at s (by omega) p hp
  have ht := toks_list s
  have ht' : toks s' = tk 0 s.data.toList ++ tokW s.size [35] 4 :: [⟨0, s'.size, ⟨#[]⟩⟩] := by
    rw [toks_list, hl, tk_split (c := 35) (by decide) [] _ 0 _ rfl, tk_nil, Nat.zero_add, ← size_list]
    simp
    rfl
  have hat : tkAt (toks s') (tk 0 s.data.toList).length = tokW s.size [35] 4 := by rw [ht']; exact tkAt_mid
  have hc : CutTs (tk 0 s.data.toList).length (toks s) (toks s') := by
    refine ⟨toks_ok s (by omega), by rw [ht]; simp, by rw [ht']; simp, ?_, ?_, ?_, ?_⟩
    · intro i hi; rw [ht, ht', tkAt_left hi, tkAt_left hi]
    · rw [hat]; show kindK [35] 4 ≠ 1; decide
    · rw [hat]; show kindK [35] 4 ≠ 3; decide
    · rw [hat]; show kwL.contains [35] = false; decide
  have he := declsC hc (.inl (by rw [hat]; exact kindK_pos [35] 4)) _ (toks s').length _ _ (Nat.zero_le _) (by simp) hp h2 (by rw [h1]; exact Nat.le_refl _)
  unfold textF
  rw [if_neg (by omega)]
  have hpe : parseF s' = .error (tk 0 s.data.toList).length := he
  rw [hpe]
  simp only
  rw [hat]
  rfl

theorem cut_text (s s' : ByteArray) (l1 l2 : List UInt8) (hs : s.size ≤ 1500) (h : (textF s).1 = 0) (hl : s.data.toList = l1 ++ 59 :: l2) (hn : (59 : UInt8) ∉ l2) (hl' : s'.data.toList = l1) : textF s' = (2, l1.length) := by
  have hsz : s.size = l1.length + 1 + l2.length := by rw [size_list, hl]; simp; omega
  have hs' : s'.size = l1.length := by rw [size_list, hl']
  obtain ⟨p, hp⟩ := text_ok hs h
  obtain ⟨h1, h2, h3⟩ := end_at s hs p hp
  have hA : tk 0 s.data.toList = tk 0 l1 ++ tokW l1.length [59] 3 :: tk (l1.length + 1) l2 := by
    rw [hl, tk_split (c := 59) (by decide) l2 _ 0 _ rfl, Nat.zero_add]; rfl
  have hne : p ≠ pZero := by
    intro e
    rw [e, hA] at h1
    simp [pZero] at h1
  have h4 := h3.resolve_left hne
  have ht2 : tk (l1.length + 1) l2 = [] := by
    cases hb : tk (l1.length + 1) l2 with
    | nil => rfl
    | cons t b =>
      exfalso
      have hlen : (tk 0 s.data.toList).length = (tk 0 l1).length + 1 + (b.length + 1) := by rw [hA, hb]; simp; omega
      rw [h1, hlen, toks_list, hA, hb] at h4
      have e1 : tkAt (tk 0 l1 ++ tokW l1.length [59] 3 :: t :: b ++ [⟨0, s.size, ⟨#[]⟩⟩]) ((tk 0 l1).length + 1 + (b.length + 1) - 1) = tkAt (t :: b) b.length := by
        unfold tkAt
        simp only [List.append_assoc, List.cons_append, List.getD_eq_getElem?_getD]
        rw [List.getElem?_append_right (by omega), show (tk 0 l1).length + 1 + (b.length + 1) - 1 - (tk 0 l1).length = b.length + 1 by omega, List.getElem?_cons_succ, ← List.cons_append, List.getElem?_append_left (by simp)]
      rw [e1] at h4
      have hm : tkAt (t :: b) b.length ∈ tk (l1.length + 1) l2 := by rw [hb]; exact tkAt_mem (by simp)
      obtain ⟨_, c, hc, hh, _⟩ := tk_kind _ _ _ rfl _ hm
      unfold Tk.l at h4
      rw [h4] at hh
      simp at hh
      subst hh
      exact hn hc
  rw [ht2] at hA
  have ht : toks s = tk 0 l1 ++ tokW l1.length [59] 3 :: [⟨0, s.size, ⟨#[]⟩⟩] := by rw [toks_list, hA]; simp
  have ht' : toks s' = tk 0 l1 ++ [⟨0, l1.length, ⟨#[]⟩⟩] := by rw [toks_list, hl', hs']
  have hat : tkAt (toks s') (tk 0 l1).length = ⟨0, l1.length, ⟨#[]⟩⟩ := by rw [ht']; exact tkAt_mid
  have hat2 : tkAt (toks s) (tk 0 l1).length = tokW l1.length [59] 3 := by rw [ht]; exact tkAt_mid
  have hc : CutTs (tk 0 l1).length (toks s) (toks s') := by
    refine ⟨toks_ok s hs, by rw [ht]; simp, by rw [ht']; simp, ?_, ?_, ?_, ?_⟩
    · intro i hi; rw [ht, ht', tkAt_left hi, tkAt_left hi]
    · rw [hat]; show (0:Nat) ≠ 1; decide
    · rw [hat]; show (0:Nat) ≠ 3; decide
    · rw [hat]; show kwL.contains [] = false; decide
  have he := declsC hc (.inr ⟨by rw [hat2]; exact kindK_pos [59] 3, by rw [hat2]; rfl⟩) _ (toks s').length _ _ (Nat.zero_le _) (by simp) hp h2 (by rw [h1, hA]; simp)
  unfold textF
  rw [if_neg (by omega)]
  have hpe : parseF s' = .error (tk 0 l1).length := he
  rw [hpe]
  simp only
  rw [hat]

end Go.Proofs.Ytmndgoapkmhglab

/- Plain mathematics: the tokens of what is laid out. -/
namespace Go.Proofs.Ytmndgoapkmhglab

/-- a token as the text's bytes make it. -/
def Fine (t : Tk) : Prop :=
  (∃ cl, (cl = 1 ∨ cl = 2) ∧ t.l ≠ [] ∧ (∀ c ∈ t.l, W cl c = true) ∧ t.kind = kindK t.l cl) ∨ (∃ c, t.l = [c] ∧ 3 ≤ cls c.toNat ∧ t.kind = kindK [c] (cls c.toNat))

theorem tw_all (p : UInt8 → Bool) : ∀ r : List UInt8, ∀ c ∈ r.takeWhile p, p c = true := by
  intro r
  induction r with
  | nil => intro c hc; simp at hc
  | cons d r ih =>
    intro c hc
    rw [List.takeWhile_cons] at hc
    split at hc
    · rename_i hd
      rcases List.mem_cons.1 hc with rfl | hc
      · exact hd
      · exact ih c hc
    · simp at hc

theorem tk_fine : ∀ n k (l : List UInt8), l.length = n → ∀ t ∈ tk k l, Fine t := by
  intro n
  induction n using Nat.strongRecOn with
  | _ n ih =>
    intro k l hn t ht
    cases l with
    | nil => rw [tk_nil] at ht; simp at ht
    | cons c r =>
      simp only [List.length_cons] at hn
      by_cases h0 : cls c.toNat = 0
      · rw [tk_blank h0] at ht
        exact ih r.length (by omega) (k + 1) r rfl t ht
      · by_cases h12 : cls c.toNat = 1 ∨ cls c.toNat = 2
        · rw [tk_word h12] at ht
          rcases List.mem_cons.1 ht with rfl | ht
          · refine .inl ⟨cls c.toNat, h12, by simp [Tk.l, tokW], ?_, by simp [Tk.l, tokW]⟩
            intro d hd
            have hd' : d ∈ c :: r.takeWhile (W (cls c.toNat)) := by simpa [Tk.l, tokW] using hd
            rcases List.mem_cons.1 hd' with rfl | hd'
            · exact W_self d
            · exact tw_all _ r d hd'
          · have hl := take_drop_len (W (cls c.toNat)) r
            exact ih _ (by omega) _ _ rfl t ht
        · rw [tk_one (by omega)] at ht
          rcases List.mem_cons.1 ht with rfl | ht
          · exact .inr ⟨c, by simp [Tk.l, tokW], by omega, by simp [tokW]⟩
          · exact ih r.length (by omega) (k + 1) r rfl t ht

/-- a rest that does not go on with a class. -/
def Stops (cl : Nat) (rest : List UInt8) : Prop := ∀ c, rest.head? = some c → W cl c = false

theorem tw_stop {p : UInt8 → Bool} : ∀ (w rest : List UInt8), (∀ c ∈ w, p c = true) → (∀ c, rest.head? = some c → p c = false) → (w ++ rest).takeWhile p = w ∧ (w ++ rest).dropWhile p = rest := by
  intro w
  induction w with
  | nil =>
    intro rest _ hr
    cases rest with
    | nil => exact ⟨rfl, rfl⟩
    | cons d r => simp [hr d rfl]
  | cons c w ih =>
    intro rest hw hr
    have hc := hw c (List.mem_cons_self ..)
    obtain ⟨h1, h2⟩ := ih rest (fun d hd => hw d (List.mem_cons_of_mem _ hd)) hr
    rw [List.cons_append, List.takeWhile_cons, List.dropWhile_cons, if_pos hc, if_pos hc, h1, h2]
    exact ⟨rfl, rfl⟩

theorem W_cls {cl : Nat} {c : UInt8} (h : W cl c = true) : cls c.toNat = cl := by unfold W at h; simpa using h

theorem tk_front {cl : Nat} (hcl : cl = 1 ∨ cl = 2) (k : Nat) (w rest : List UInt8) (hw : w ≠ []) (ha : ∀ c ∈ w, W cl c = true) (hr : Stops cl rest) : tk k (w ++ rest) = tokW k w cl :: tk (k + w.length) rest := by
  cases w with
  | nil => exact absurd rfl hw
  | cons c w =>
    have hc := W_cls (ha c (List.mem_cons_self ..))
    rw [List.cons_append, tk_word (by rw [hc]; exact hcl), hc]
    obtain ⟨h1, h2⟩ := tw_stop (p := W cl) w rest (fun d hd => ha d (List.mem_cons_of_mem _ hd)) hr
    rw [h1, h2, List.length_cons, show k + 1 + w.length = k + (w.length + 1) by omega]

theorem trim_ne {l : List UInt8} (h : l ≠ []) : trimL l ≠ [] := by
  induction l with
  | nil => exact absurd rfl h
  | cons c r ih =>
    cases r with
    | nil => exact h
    | cons d r =>
      unfold trimL
      split
      · exact ih (by simp)
      · exact h
theorem trim_mem : ∀ l : List UInt8, ∀ c ∈ trimL l, c ∈ l := by
  intro l
  induction l with
  | nil => intro c hc; exact hc
  | cons a r ih =>
    intro c hc
    cases r with
    | nil => exact hc
    | cons d r =>
      unfold trimL at hc
      split at hc
      · exact List.mem_cons_of_mem _ (ih c hc)
      · exact hc
theorem trim_trim : ∀ l : List UInt8, trimL (trimL l) = trimL l := by
  intro l
  induction l with
  | nil => rfl
  | cons a r ih =>
    cases r with
    | nil => rfl
    | cons d r =>
      by_cases h : a = 48
      · have e : trimL (a :: d :: r) = trimL (d :: r) := by rw [trimL, if_pos h]
        rw [e]; exact ih
      · have e : trimL (a :: d :: r) = a :: d :: r := by rw [trimL, if_neg h]
        rw [e, e]
theorem trim_val : ∀ l : List UInt8, valOf (trimL l) = valOf l := by
  intro l
  induction l with
  | nil => rfl
  | cons a r ih =>
    cases r with
    | nil => rfl
    | cons d r =>
      by_cases h : a = 48
      · have e : trimL (a :: d :: r) = trimL (d :: r) := by rw [trimL, if_pos h]
        rw [e, ih, h]
        unfold valOf
        simp
      · have e : trimL (a :: d :: r) = a :: d :: r := by rw [trimL, if_neg h]
        rw [e]

theorem kind3_cls {w : List UInt8} {cl : Nat} (h : kindK w cl = 3) : cl = 2 ∧ w.length ≤ 18 := by
  unfold kindK at h
  split at h
  · unfold wordK at h
    split at h
    · cases h
    split at h <;> cases h
  split at h
  · rename_i hc
    unfold numK at h
    split at h
    · cases h
    · exact ⟨hc, by omega⟩
  split at h <;> cases h

theorem trim_short : ∀ l : List UInt8, (trimL l).length ≤ l.length := by
  intro l
  induction l with
  | nil => exact Nat.le_refl _
  | cons c r ih =>
    cases r with
    | nil => exact Nat.le_refl _
    | cons d r =>
      unfold trimL
      split
      · exact Nat.le_trans ih (by simp)
      · exact Nat.le_refl _

/-- the same token laid out: as fine, of the same kind. -/
theorem fine_bare {t : Tk} (h : Fine t) : (∃ cl, (cl = 1 ∨ cl = 2) ∧ bareL t ≠ [] ∧ (∀ c ∈ bareL t, W cl c = true) ∧ kindK (bareL t) cl = t.kind) ∨ (∃ c, bareL t = [c] ∧ t.l = [c] ∧ 3 ≤ cls c.toNat ∧ t.kind = kindK [c] (cls c.toNat)) := by
  rcases h with ⟨cl, hcl, hne, hal, hk⟩ | ⟨c, hl, hc, hk⟩
  · left
    unfold bareL
    by_cases h3 : t.kind = 3
    · rw [if_pos h3]
      obtain ⟨rfl, h18⟩ := kind3_cls (hk ▸ h3)
      refine ⟨2, .inr rfl, trim_ne hne, fun c hc => hal c (trim_mem _ c hc), ?_⟩
      rw [h3]
      have := trim_short t.l
      unfold kindK numK
      rw [if_neg (by decide), if_pos rfl, if_neg (by omega)]
    · rw [if_neg h3]
      exact ⟨cl, hcl, hne, hal, hk.symm⟩
  · right
    refine ⟨c, ?_, hl, hc, hk⟩
    unfold bareL
    rw [if_neg, hl]
    intro h3
    have := (kind3_cls (hk ▸ h3)).1
    omega
/-- what follows a token, laid out. -/
def outG : List UInt8 → List Tk → List UInt8
  | prev, [] => gapL prev []
  | prev, t :: r => gapL prev t.l ++ (bareL t ++ outG t.l r)

theorem gap_head {a b : List UInt8} {cl : Nat} (hcl : cl = 1 ∨ cl = 2) (x : List UInt8) (h : gapL a b ≠ []) : Stops cl (gapL a b ++ x) := by
  intro c hc
  unfold gapL at h hc
  split at hc
  · simp at hc; subst hc; rcases hcl with rfl | rfl <;> decide
  split at hc
  · rename_i h1 h2; rw [if_neg h1, if_pos h2] at h; exact absurd rfl h
  · simp at hc; subst hc; rcases hcl with rfl | rfl <;> decide

theorem gap_none {a b : List UInt8} (h : gapL a b = []) : a = [40] ∨ b = [41] ∨ b = [59] := by
  unfold gapL at h
  split at h
  · cases h
  split at h
  · assumption
  · cases h

theorem outG_stops {t : Tk} {cl : Nat} (hcl : cl = 1 ∨ cl = 2) (ht : t.l ≠ [40]) (r : List Tk) (hf : ∀ u ∈ r, Fine u) : Stops cl (outG t.l r) := by
  cases r with
  | nil =>
    unfold outG
    by_cases h : gapL t.l [] = []
    · rcases gap_none h with h | h | h
      · exact absurd h ht
      · cases h
      · cases h
    · have := gap_head hcl [] h
      simpa using this
  | cons u r =>
    unfold outG
    by_cases h : gapL t.l u.l = []
    · rw [h, List.nil_append]
      intro c hc
      have hu : u.l = [41] ∨ u.l = [59] := by
        rcases gap_none h with h | h
        · exact absurd h ht
        · exact h
      have hb : bareL u = u.l := by
        rcases fine_bare (hf u (List.mem_cons_self ..)) with ⟨cl', hcl', _, hal, _⟩ | ⟨d, h1, h2, _⟩
        · unfold bareL
          split
          · rcases hu with e | e <;> rw [e] <;> rfl
          · rfl
        · rw [h1, h2]
      rw [hb] at hc
      rcases hu with e | e <;> rw [e] at hc <;> simp at hc <;> subst hc <;> rcases hcl with rfl | rfl <;> decide
    · exact gap_head hcl _ h

def OutR (t u : Tk) : Prop := u.kind = t.kind ∧ u.l = bareL t

theorem tk_gap (k : Nat) (a b x : List UInt8) : ∃ k', tk k (gapL a b ++ x) = tk k' x := by
  unfold gapL
  split
  · exact ⟨k + 1, by rw [List.singleton_append, tk_blank (by decide)]⟩
  split
  · exact ⟨k, rfl⟩
  · exact ⟨k + 1, by rw [List.singleton_append, tk_blank (by decide)]⟩

theorem out_front {t : Tk} (ht : Fine t) (r : List Tk) (hf : ∀ u ∈ r, Fine u) (k : Nat) : ∃ u k', OutR t u ∧ tk k (bareL t ++ outG t.l r) = u :: tk k' (outG t.l r) := by
  rcases fine_bare ht with ⟨cl, hcl, hne, hal, hk⟩ | ⟨c, h1, h2, hc, hk⟩
  · have hstop : Stops cl (outG t.l r) := by
      refine outG_stops hcl ?_ r hf
      intro e
      have hb : bareL t = [40] := by
        unfold bareL; rw [e]; split <;> rfl
      have := hal 40 (by rw [hb]; simp)
      rcases hcl with rfl | rfl <;> revert this <;> decide
    exact ⟨tokW k (bareL t) cl, _, ⟨hk, by simp [tokW, Tk.l]⟩, tk_front hcl k _ _ hne hal hstop⟩
  · refine ⟨tokW k [c] (cls c.toNat), k + 1, ⟨hk.symm, by rw [h1]; simp [tokW, Tk.l]⟩, ?_⟩
    rw [h1, List.singleton_append, tk_one hc]

theorem out_tk : ∀ (r : List Tk), (∀ u ∈ r, Fine u) → ∀ prev k, All2 OutR r (tk k (outG prev r)) := by
  intro r
  induction r with
  | nil =>
    intro _ prev k
    unfold outG
    obtain ⟨k', h⟩ := tk_gap k prev [] []
    rw [List.append_nil] at h
    rw [h]
    exact trivial
  | cons t r ih =>
    intro hf prev k
    unfold outG
    obtain ⟨k', h⟩ := tk_gap k prev t.l (bareL t ++ outG t.l r)
    rw [h]
    obtain ⟨u, k2, h1, h2⟩ := out_front (hf t (List.mem_cons_self ..)) r (fun u hu => hf u (List.mem_cons_of_mem _ hu)) k'
    rw [h2]
    exact ⟨h1, ih (fun u hu => hf u (List.mem_cons_of_mem _ hu)) t.l k2⟩

/-- the whole, laid out: the first token stands at the head. -/
def outL : List Tk → List UInt8
  | [] => []
  | t :: r => bareL t ++ outG t.l r

theorem outL_tk (r : List Tk) (hf : ∀ u ∈ r, Fine u) (k : Nat) : All2 OutR r (tk k (outL r)) := by
  cases r with
  | nil => exact trivial
  | cons t r =>
    unfold outL
    obtain ⟨u, k2, h1, h2⟩ := out_front (hf t (List.mem_cons_self ..)) r (fun u hu => hf u (List.mem_cons_of_mem _ hu)) k
    rw [h2]
    exact ⟨h1, out_tk r (fun u hu => hf u (List.mem_cons_of_mem _ hu)) t.l k2⟩

end Go.Proofs.Ytmndgoapkmhglab

/- Plain mathematics: tokens as the document's own reader has them, and the parts of a text. -/
namespace Go.Proofs.Ytmndgoapkmhglab

theorem kw_cases {l : List UInt8} (h : kwL.contains l = true) : (∃ c, l = [c] ∧ cls c.toNat = 3) ∨ (keptL.contains l = true ∧ ∃ c, c ∈ l ∧ cls c.toNat = 1) := by
  have h' : l ∈ kwL := by simpa using h
  simp only [kwL, List.mem_cons, List.not_mem_nil, or_false] at h'
  rcases h' with rfl | rfl | rfl | rfl | rfl | rfl | rfl | rfl | rfl | rfl | rfl | rfl | rfl | rfl | rfl | rfl | rfl | rfl | rfl | rfl
  all_goals first | exact .inl ⟨_, rfl, by decide⟩ | exact .inr ⟨by decide, 105, by decide, by decide⟩ | exact .inr ⟨by decide, 98, by decide, by decide⟩ | exact .inr ⟨by decide, 97, by decide, by decide⟩ | exact .inr ⟨by decide, 110, by decide, by decide⟩ | exact .inr ⟨by decide, 116, by decide, by decide⟩

/-- what the two readers of tokens have in common. -/
structure TkF (t : Tk) : Prop where
  kw : ∀ l, kwL.contains l = true → ((rtok t).l = l ↔ t.l = l)
  k0 : t.kind = 0 → kwL.contains t.l = false
  k1 : t.kind = 1 → kwL.contains t.l = false
  k3 : t.kind = 3 → kwL.contains t.l = false
  sg : ∀ x : Nat, x = 59 ∨ x = 61 ∨ x = 41 → (t.l = [UInt8.ofNat x] ↔ (t.kind = 4 ∧ (t.l.getD 0 0).toNat = x))
  pos : t.kind ≠ 0 → t.l ≠ []

theorem rtok_l (t : Tk) : (rtok t).l = if t.kind = 1 ∨ t.kind = 2 ∨ t.kind = 4 then t.l else [] := by
  unfold rtok RTk.l Tk.l
  simp only
  split <;> rfl

theorem kwL_nil : kwL.contains ([] : List UInt8) = false := by decide

theorem TkF.ofEnd (k : Nat) : TkF ⟨0, k, ⟨#[]⟩⟩ := by
  refine ⟨fun l hl => ?_, fun _ => kwL_nil, fun h => (by cases h), fun h => (by cases h), fun x hx => ?_, fun h => absurd rfl h⟩
  · rw [rtok_l]
    simp only [Tk.l]
    exact Iff.rfl
  · constructor
    · intro h; simp [Tk.l] at h
    · rintro ⟨h, _⟩; cases h

theorem TkF.ofFine {t : Tk} (h : Fine t) : TkF t := by
  rcases h with ⟨cl, hcl, hne, hall, hk⟩ | ⟨c, hc, h3, hk⟩
  · have hno : kwL.contains t.l = true → cl = 1 ∧ keptL.contains t.l = true := by
      intro hkw
      rcases kw_cases hkw with ⟨c, hc, h3⟩ | ⟨hkp, c, hc, h1⟩
      · have := W_cls (hall c (by rw [hc]; simp)); omega
      · have := W_cls (hall c hc); exact ⟨by omega, hkp⟩
    have hsg : ∀ c : UInt8, cls c.toNat = 3 → t.l ≠ [c] := by
      intro c h3 e
      have := W_cls (hall c (by rw [e]; simp)); omega
    have hkind : (t.kind = 2 ∧ keptL.contains t.l = true ∧ cl = 1) ∨ (t.kind = 5 ∧ ¬ (cl = 1 ∧ keptL.contains t.l = true)) ∨ (t.kind = 1 ∧ keptL.contains t.l = false) ∨ (t.kind = 3 ∧ cl = 2) := by
      rcases hcl with rfl | rfl
      · unfold kindK wordK at hk
        rw [if_pos rfl] at hk
        split at hk
        · exact .inl ⟨hk, by assumption, rfl⟩
        · rename_i hn
          split at hk
          · exact .inr (.inl ⟨hk, fun h => hn h.2⟩)
          · exact .inr (.inr (.inl ⟨hk, by simpa using hn⟩))
      · unfold kindK numK at hk
        rw [if_neg (by decide), if_pos rfl] at hk
        split at hk
        · exact .inr (.inl ⟨hk, fun h => by omega⟩)
        · exact .inr (.inr (.inr ⟨hk, rfl⟩))
    refine ⟨fun l hl => ?_, fun h => by omega, fun h => ?_, fun h => ?_, fun x hx => ?_, fun _ => hne⟩
    · rw [rtok_l]
      by_cases h12 : t.kind = 1 ∨ t.kind = 2 ∨ t.kind = 4
      · rw [if_pos h12]
      · rw [if_neg h12]
        constructor
        · intro e; rw [← e] at hl; cases hl
        · intro e
          have := hno (by rw [e]; exact hl)
          rcases hkind with ⟨h, _⟩ | ⟨h, h'⟩ | ⟨h, _⟩ | ⟨h, h'⟩
          · omega
          · exact absurd this h'
          · omega
          · omega
    · cases hkw : kwL.contains t.l with
      | false => rfl
      | true =>
        have := hno hkw
        rcases hkind with ⟨h', _⟩ | ⟨h', _⟩ | ⟨_, h'⟩ | ⟨h', _⟩
        · omega
        · omega
        · rw [h'] at this; cases this.2
        · omega
    · cases hkw : kwL.contains t.l with
      | false => rfl
      | true =>
        have := hno hkw
        rcases hkind with ⟨h', _⟩ | ⟨h', _⟩ | ⟨h', _⟩ | ⟨_, h'⟩ <;> omega
    · constructor
      · intro e
        exact absurd e (hsg _ (by rcases hx with rfl | rfl | rfl <;> decide))
      · rintro ⟨h, _⟩; omega
  · have hc4 := cls_le c.toNat
    have hk' : (t.kind = 4 ∧ cls c.toNat = 3) ∨ (t.kind = 5 ∧ cls c.toNat = 4) := by
      unfold kindK at hk
      rw [if_neg (by omega), if_neg (by omega)] at hk
      by_cases e : cls c.toNat = 3
      · rw [if_pos e] at hk; exact .inl ⟨hk, e⟩
      · rw [if_neg e] at hk; exact .inr ⟨hk, by omega⟩
    have hno : kwL.contains t.l = true → cls c.toNat = 3 := by
      intro hkw
      rcases kw_cases hkw with ⟨d, hd, h3'⟩ | ⟨hkp, d, hd, h1⟩
      · rw [hc] at hd; simp at hd; rw [hd]; exact h3'
      · rw [hc] at hd; simp at hd; rw [hd] at h1; omega
    refine ⟨fun l hl => ?_, fun h => by omega, fun h => by omega, fun h => by omega, fun x hx => ?_, fun _ => by rw [hc]; simp⟩
    · rw [rtok_l]
      rcases hk' with ⟨h, _⟩ | ⟨h, h'⟩
      · rw [if_pos (.inr (.inr h))]
      · rw [if_neg (by omega)]
        constructor
        · intro e; rw [← e] at hl; cases hl
        · intro e
          have := hno (by rw [e]; exact hl)
          omega
    · rw [hc]
      constructor
      · intro e
        have ec : c = UInt8.ofNat x := by simpa using e
        have h3' : cls c.toNat = 3 := by rw [ec]; rcases hx with rfl | rfl | rfl <;> decide
        refine ⟨by omega, ?_⟩
        rw [ec]; rcases hx with rfl | rfl | rfl <;> rfl
      · rintro ⟨_, e⟩
        have e' : c.toNat = x := e
        rw [← e']; simp

/-- the tokens of a text, each as bytes make it. -/
theorem toks_F (s : ByteArray) (i : Nat) : TkF (tkAt (toks s) i) := by
  rw [toks_list]
  by_cases h : i < (tk 0 s.data.toList).length
  · rw [tkAt_left h]; exact TkF.ofFine (tk_fine _ _ _ rfl _ (tkAt_mem h))
  · by_cases e : i = (tk 0 s.data.toList).length
    · rw [e, tkAt_mid]; exact TkF.ofEnd _
    · have : tkAt (tk 0 s.data.toList ++ [⟨0, s.size, ⟨#[]⟩⟩]) i = tkEnd := by
        unfold tkAt
        rw [List.getD_eq_getElem?_getD, List.getElem?_eq_none (by simp; omega)]
        rfl
      rw [this]; exact TkF.ofEnd 0

section
variable {t : Tk} (h : TkF t)
include h
theorem TkF.not0 (hk : kwL.contains t.l = true) : t.kind ≠ 0 := fun e => by rw [h.k0 e] at hk; cases hk
theorem TkF.not1 (hk : kwL.contains t.l = true) : t.kind ≠ 1 := fun e => by rw [h.k1 e] at hk; cases hk
theorem TkF.not3 (hk : kwL.contains t.l = true) : t.kind ≠ 3 := fun e => by rw [h.k3 e] at hk; cases hk
theorem TkF.op : opOf (rtok t).l = opOf t.l := by
  have e : ∀ (l : List UInt8), kwL.contains l = true → ∀ (x y : Option Nat), (if (rtok t).l = l then x else y) = if t.l = l then x else y := fun l hl x y => by
    by_cases e : t.l = l
    · rw [if_pos e, if_pos ((h.kw l hl).2 e)]
    · rw [if_neg e, if_neg (fun e' => e ((h.kw l hl).1 e'))]
  unfold opOf
  rw [e [43] (by decide), e [45] (by decide), e [42] (by decide), e [47] (by decide), e [60] (by decide), e [61] (by decide), e [38] (by decide), e [124] (by decide)]
theorem TkF.rl : rop (rtok t).l = (opOf t.l).isSome := by unfold rop; rw [h.op]
theorem TkF.eq {l : List UInt8} (hl : kwL.contains l = true) : ((rtok t).l == l) = (t.l == l) := by
  rw [Bool.eq_iff_iff, beq_iff_eq, beq_iff_eq]; exact h.kw l hl
theorem TkF.if {α : Type} {l : List UInt8} (hl : kwL.contains l = true) (x y : α) : (if (rtok t).l = l then x else y) = if t.l = l then x else y := by
  by_cases e : t.l = l
  · rw [if_pos e, if_pos ((h.kw l hl).2 e)]
  · rw [if_neg e, if_neg (fun e' => e ((h.kw l hl).1 e'))]
end

theorem c97 (t : Tk) : ((rtok t).c == 97) = (t.kind == 1) := by
  unfold rtok; simp only; rw [Bool.eq_iff_iff, beq_iff_eq, beq_iff_eq]
  constructor
  · intro h; split at h; omega; split at h; assumption; split at h; omega; split at h; omega; split at h <;> omega
  · intro h; rw [h]; rfl
theorem c110 (t : Tk) : ((rtok t).c == 110) = (t.kind == 3) := by
  unfold rtok; simp only; rw [Bool.eq_iff_iff, beq_iff_eq, beq_iff_eq]
  constructor
  · intro h; split at h; omega; split at h; omega; split at h; omega; split at h; assumption; split at h <;> omega
  · intro h; rw [h]; rfl
theorem c101 (t : Tk) : ((rtok t).c == 101) = (t.kind == 0) := by
  unfold rtok; simp only; rw [Bool.eq_iff_iff, beq_iff_eq, beq_iff_eq]
  constructor
  · intro h; split at h; assumption; split at h; omega; split at h; omega; split at h; omega; split at h <;> omega
  · intro h; rw [h]; rfl
theorem c115 (t : Tk) : ((rtok t).c == 115) = (t.kind == 4) := by
  unfold rtok; simp only; rw [Bool.eq_iff_iff, beq_iff_eq, beq_iff_eq]
  constructor
  · intro h; split at h; omega; split at h; omega; split at h; omega; split at h; omega; split at h <;> omega
  · intro h; rw [h]; rfl
theorem rn3 {t : Tk} (h : t.kind = 3) : (rtok t).n = valOf t.l := by unfold rtok; simp only; rw [if_pos h]; rfl

/-- a literal token. -/
def litT (t : Tk) : Bool := t.kind == 3 || t.l == kTrue || t.l == kFalse
theorem TkF.lit {t : Tk} (h : TkF t) : rlit (rtok t) = litT t := by
  unfold rlit litT; rw [c110, h.eq (by decide), h.eq (by decide)]

end Go.Proofs.Ytmndgoapkmhglab

/- Plain mathematics: the parts of a text as the two readers find them. -/
namespace Go.Proofs.Ytmndgoapkmhglab

/-- an expression: a token alone, or what stands in brackets. -/
inductive Ast where
  | leaf
  | neg (a : Ast)
  | ite (a b c : Ast)
  | dly (b : Ast)
  | bin (a b : Ast)

/-- how many tokens. -/
def Ast.len : Ast → Nat
  | .leaf => 1
  | .neg a => a.len + 3
  | .ite a b c => a.len + b.len + c.len + 3
  | .dly b => b.len + 4
  | .bin a b => a.len + b.len + 3
/-- how many nodes. -/
def Ast.size : Ast → Nat
  | .leaf => 1
  | .neg a => a.size + 1
  | .ite a b c => a.size + b.size + c.size + 1
  | .dly b => b.size + 2
  | .bin a b => a.size + b.size + 1

def leafT (t : Tk) : Bool := litT t || t.kind == 1

abbrev lAt (ts : List Tk) (i : Nat) : List UInt8 := (tkAt ts i).l

/-- an expression stands at token i. -/
def Sp (ts : List Tk) : Ast → Nat → Prop
  | .leaf, i => leafT (tkAt ts i) = true ∧ lAt ts i ≠ [40]
  | .neg a, i => lAt ts i = [40] ∧ lAt ts (i + 1) = kNot ∧ Sp ts a (i + 2) ∧ lAt ts (i + 2 + a.len) = [41]
  | .ite a b c, i => lAt ts i = [40] ∧ lAt ts (i + 1) = kIf ∧ Sp ts a (i + 2) ∧ Sp ts b (i + 2 + a.len) ∧ Sp ts c (i + 2 + a.len + b.len) ∧ lAt ts (i + 2 + a.len + b.len + c.len) = [41]
  | .dly b, i => lAt ts i = [40] ∧ litT (tkAt ts (i + 1)) = true ∧ lAt ts (i + 2) = kFby ∧ Sp ts b (i + 3) ∧ lAt ts (i + 3 + b.len) = [41]
  | .bin a b, i => lAt ts i = [40] ∧ Sp ts a (i + 1) ∧ (opOf (lAt ts (i + 1 + a.len))).isSome = true ∧ Sp ts b (i + 2 + a.len) ∧ lAt ts (i + 2 + a.len + b.len) = [41]

def mkN (ts : List Tk) (i dl : Nat) (n : Nd) : Nd :=
  { n with pos := (tkAt ts i).pos, delayed := decide (0 < dl), behind := decide (0 < i) && ((tkAt ts (i - 1)).l == kFby) }

def leafN0 (t : Tk) : Nd :=
  if t.l = kTrue then { ndZero with kind := 1, value := 1 } else if t.l = kFalse then { ndZero with kind := 1 }
  else if t.kind = 3 then { ndZero with kind := 0, value := valOf t.l } else { ndZero with kind := 2, name := t.text }

/-- the nodes of an expression at token i, behind so many delays, the first of them number off. -/
def flat (ts : List Tk) : Ast → Nat → Nat → Nat → List Nd
  | .leaf, i, dl, _ => [mkN ts i dl (leafN0 (tkAt ts i))]
  | .neg a, i, dl, off => mkN ts i dl { ndZero with kind := 3, a := off + 1 } :: flat ts a (i + 2) dl (off + 1)
  | .ite a b c, i, dl, off => mkN ts i dl { ndZero with kind := 4, a := off + 1, b := off + 1 + a.size, c := off + 1 + a.size + b.size } ::
      (flat ts a (i + 2) dl (off + 1) ++ (flat ts b (i + 2 + a.len) dl (off + 1 + a.size) ++ flat ts c (i + 2 + a.len + b.len) dl (off + 1 + a.size + b.size)))
  | .dly b, i, dl, off => mkN ts i dl { ndZero with kind := 5, a := off + 1, b := off + 2 } :: mkN ts (i + 1) dl (leafN0 (tkAt ts (i + 1))) :: flat ts b (i + 3) (dl + 1) (off + 2)
  | .bin a b, i, dl, off => mkN ts i dl { ndZero with kind := 6, op := (opOf (lAt ts (i + 1 + a.len))).getD 0, a := off + 1, b := off + 1 + a.size } ::
      (flat ts a (i + 1) dl (off + 1) ++ flat ts b (i + 2 + a.len) dl (off + 1 + a.size))

theorem flat_len (ts : List Tk) : ∀ (t : Ast) i dl off, (flat ts t i dl off).length = t.size := by
  intro t
  induction t with
  | leaf => intro i dl off; rfl
  | neg a iha => intro i dl off; simp [flat, Ast.size, iha]
  | ite a b c iha ihb ihc => intro i dl off; simp [flat, Ast.size, iha, ihb, ihc]; omega
  | dly b ihb => intro i dl off; simp [flat, Ast.size, ihb]
  | bin a b iha ihb => intro i dl off; simp [flat, Ast.size, iha, ihb]

/-- the reader with a list of what may still come (its next one first): what it answers, in at most n steps. -/
inductive Ans (ts : List Tk) : Nat → List UInt8 → Int → Nat → Int → Prop
  | done (n : Nat) (X : List UInt8) (d : Int) (i : Nat) (hi : i < ts.length) (hX : X.length ≤ 99) (hk : (tkAt ts i).kind = 0) : Ans ts n (80 :: X) d i (-1)
  | fail (n : Nat) (x : UInt8) (X : List UInt8) (d : Int) (i : Nat) (hi : i < ts.length) (hX : X.length ≤ 99) (h80 : ¬ (x = 80 ∧ (tkAt ts i).kind = 0)) (hr : (ruleF x.toNat (rtok (tkAt ts i)) d).2.2 = false) : Ans ts n (x :: X) d i ((tkAt ts i).pos : Int)
  | step (n : Nat) (x : UInt8) (X : List UInt8) (d : Int) (i : Nat) (r : Int) (m : List UInt8) (u : Bool) (hi : i < ts.length) (hX : X.length ≤ 99) (h80 : ¬ (x = 80 ∧ (tkAt ts i).kind = 0))
      (hr : ruleF x.toNat (rtok (tkAt ts i)) d = (m, u, true))
      (hn : Ans ts n (m ++ X) (if u = true ∧ lAt ts i = [40] then d + 1 else if u = true ∧ lAt ts i = [41] then d - 1 else d) (if u = true then i + 1 else i) r) : Ans ts (n + 1) (x :: X) d i r

section
variable {ts : List Tk} (hF : ∀ i, TkF (tkAt ts i))
include hF

omit hF in
/-- a token is used up that is no bracket. -/
theorem Ans.use {n : Nat} {x : UInt8} {X m : List UInt8} {d : Int} {i : Nat} {r : Int} (hi : i < ts.length) (hX : X.length ≤ 99) (h80 : x ≠ 80)
    (hr : ruleF x.toNat (rtok (tkAt ts i)) d = (m, true, true)) (h1 : lAt ts i ≠ [40]) (h2 : lAt ts i ≠ [41])
    (hn : Ans ts n (m ++ X) d (i + 1) r) : Ans ts (n + 1) (x :: X) d i r := by
  refine Ans.step n x X d i r m true hi hX (fun h => h80 h.1) hr ?_
  rw [if_neg (fun h => h1 h.2), if_neg (fun h => h2 h.2), if_pos rfl]
  exact hn

theorem Ans.sign {n : Nat} {X : List UInt8} {d : Int} {i : Nat} {r : Int} (x : Nat) (hx : x = 59 ∨ x = 61) (hi : i < ts.length) (hX : X.length ≤ 99) (h : lAt ts i = [UInt8.ofNat x])
    (hn : Ans ts n X d (i + 1) r) : Ans ts (n + 1) (UInt8.ofNat x :: X) d i r := by
  have hs := (hF i).sg x (by omega)
  have hk := hs.1 h
  refine Ans.use hi hX (by rcases hx with rfl | rfl <;> decide) (m := []) ?_ (by rw [h]; rcases hx with rfl | rfl <;> decide) (by rw [h]; rcases hx with rfl | rfl <;> decide) hn
  have hl : (rtok (tkAt ts i)).l = lAt ts i := (hF i).kw _ (by rw [h]; rcases hx with rfl | rfl <;> decide) |>.2 rfl
  have hc := c115 (tkAt ts i)
  rw [hk.1] at hc
  rcases hx with rfl | rfl
  all_goals
    unfold ruleF
    rw [if_neg (by decide), if_neg (by decide), if_neg (by decide), if_neg (by decide), if_neg (by decide), if_neg (by decide), if_neg (by decide), if_neg (by decide), hc, hl, hk.2]
    rfl

theorem Ans.close {n : Nat} {X : List UInt8} {d : Int} {i : Nat} {r : Int} (hi : i < ts.length) (hX : X.length ≤ 99) (h : lAt ts i = [41])
    (hn : Ans ts n X (d - 1) (i + 1) r) : Ans ts (n + 1) (41 :: X) d i r := by
  have hs := (hF i).sg 41 (by omega)
  have hk := hs.1 h
  have hl : (rtok (tkAt ts i)).l = lAt ts i := (hF i).kw _ (by rw [h]; decide) |>.2 rfl
  have hc := c115 (tkAt ts i)
  rw [hk.1] at hc
  refine Ans.step n 41 X d i r [] true hi hX (fun h => absurd h.1 (by decide)) ?_ ?_
  · unfold ruleF
    rw [if_neg (by decide), if_neg (by decide), if_neg (by decide), if_neg (by decide), if_neg (by decide), if_neg (by decide), if_neg (by decide), if_neg (by decide), hc, hl, hk.2]
    rfl
  · rw [if_neg (by rw [h]; decide), if_pos ⟨rfl, h⟩, if_pos rfl]
    exact hn

theorem Ans.nosign {X : List UInt8} {d : Int} {i : Nat} (x : Nat) (hx : x = 59 ∨ x = 61 ∨ x = 41) (hi : i < ts.length) (hX : X.length ≤ 99) (h : lAt ts i ≠ [UInt8.ofNat x]) :
    Ans ts 0 (UInt8.ofNat x :: X) d i ((tkAt ts i).pos : Int) := by
  have hs := (hF i).sg x hx
  refine Ans.fail 0 _ X d i hi hX (fun h => absurd h.1 (by rcases hx with rfl | rfl | rfl <;> decide)) ?_
  have hc := c115 (tkAt ts i)
  have key : ((rtok (tkAt ts i)).c == 115 && (((rtok (tkAt ts i)).l.getD 0 0).toNat == x)) = false := by
    rw [hc]
    by_cases h4 : (tkAt ts i).kind = 4
    · have hl : (rtok (tkAt ts i)).l = lAt ts i := by rw [rtok_l, if_pos (.inr (.inr h4))]
      rw [hl]
      have : (((lAt ts i).getD 0 0).toNat == x) = false := by rw [beq_eq_false_iff_ne]; exact fun e => h (hs.2 ⟨h4, e⟩)
      rw [this, Bool.and_false]
    · simp [h4]
  rcases hx with rfl | rfl | rfl
  all_goals
    unfold ruleF
    rw [if_neg (by decide), if_neg (by decide), if_neg (by decide), if_neg (by decide), if_neg (by decide), if_neg (by decide), if_neg (by decide), if_neg (by decide)]
    exact key

end

end Go.Proofs.Ytmndgoapkmhglab
