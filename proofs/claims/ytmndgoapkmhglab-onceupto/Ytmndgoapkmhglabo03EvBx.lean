import Derived.Deep.OwnRows
import Derived.Test.Ytmndgoapkmhglabo00Base
import Derived.Test.Ytmndgoapkmhglabo02BoxC
namespace Go.Proofs.Ytmndgoapkmhglab
def usesSeg (decl : Nat) : List Nd → Bool → Bool → Bool × Bool
  | [], u, p => (u, p)
  | n :: r, u, p => if n.kind = 2 ∧ n.decl = (decl : Int) then usesSeg decl r true (p || !n.behind) else usesSeg decl r u p
def usesAll (ns : List Nd) (decl place : Nat) : List Dc → Bool → Bool → Bool × Bool
  | [], u, p => (u, p)
  | d :: r, u, p => if d.kind = 0 ∨ d.place ≠ place then usesAll ns decl place r u p
      else usesAll ns decl place r (usesSeg decl (seg ns d.root d.fin) u p).1 (usesSeg decl (seg ns d.root d.fin) u p).2
def usesF (ds : List Dc) (ns : List Nd) (decl place : Nat) : Bool × Bool := usesAll ns decl place ds false false
structure Rt where
  src : Nat
  dst : Nat
  late : Bool
def linkAt (ds : List Dc) (ns : List Nd) (i : Nat) (d : Dc) (q : Nat) : List Rt :=
  if (usesF ds ns i q).1 = true ∧ q ≠ d.place then [⟨d.number, q, !(usesF ds ns i q).2⟩] else []
def linksTo (ds : List Dc) (ns : List Nd) (i : Nat) (d : Dc) : Nat → List Rt
  | 0 => []
  | q + 1 => linksTo ds ns i d q ++ linkAt ds ns i d q
def linksFrom (ds : List Dc) (ns : List Nd) : Nat → List Dc → List Rt
  | _, [] => []
  | i, d :: r => (if d.kind = 0 then [] else linksTo ds ns i d 4) ++ linksFrom ds ns (i + 1) r
def linksF (ds : List Dc) (ns : List Nd) : List Rt := linksFrom ds ns 0 ds
def eqsF (ds : List Dc) : List Dc := ds.filter fun d => d.kind != 0
def waitsM (es : List Dc) : List Rt → Mx → Mx
  | [], M => M
  | r :: l, M => waitsM es l (if r.late = true then M else upd M r.dst (es.getD r.src ⟨0, 0, ⟨#[]⟩, 0, 0, 0, 0⟩).place true)
def firstAt (M : Mx) : List Dc → Option Nat
  | [] => none
  | d :: r => if M d.place d.place then some d.pos else firstAt M r
def loopF (ds : List Dc) (ns : List Nd) : Option Nat := firstAt (warsh (waitsM (eqsF ds) (linksF ds ns) noM) 4) (eqsF ds)
theorem linksTo_len (ds : List Dc) (ns : List Nd) (i : Nat) (d : Dc) : ∀ q, (linksTo ds ns i d q).length ≤ q := by
  intro q
  induction q with
  | zero => simp [linksTo]
  | succ q ih =>
    simp only [linksTo, List.length_append, linkAt]
    split <;> simp <;> omega
def meaningF (ds : List Dc) (ns : List Nd) : Nat × Nat :=
  match tooManyF ds with
  | some a => (3, a)
  | none => match badNameF ds ns 0 ds with
    | some a => (4, a)
    | none => match badTypeF ds 0 ns (roots ds (List.replicate ns.length false)) with
      | some a => (5, a)
      | none => match cycleF ds ns with
        | some a => (6, a)
        | none => match loopF ds ns with
          | some a => (7, a)
          | none => (0, 0)
structure Good (ds : List Dc) (ns : List Nd) : Prop where
  wf : ProgWf ds ns
  names : badNameF ds ns 0 ds = none → ∀ n ∈ ns, n.kind = 2 → 0 ≤ n.decl
  links : ∀ r ∈ linksF ds ns, r.src < (eqsF ds).length ∧ r.dst < 4
  many : (linksF ds ns).length ≤ 6100
def boundN (p : PS) : List Nd := p.nodes.map (bindF p.decls)
def textF (s : ByteArray) : Nat × Nat :=
  if 1500 < s.size then (1, 0)
  else match parseF s with
    | .error k => (2, (tkAt (toks s) k).pos)
    | .ok p => meaningF p.decls (boundN p)
structure NdOk (N i : Nat) (n : Nd) : Prop where
  kind : n.kind ≤ 6
  a : n.a < N
  b : n.b < N
  c : n.c < N
  k3 : n.kind = 3 → i < n.a
  k4 : n.kind = 4 → i < n.a ∧ n.a < n.b ∧ n.b < n.c
  k5 : n.kind = 5 ∨ n.kind = 6 → i < n.a ∧ n.a < n.b
theorem NdOk.mono {N M i : Nat} {n : Nd} (h : NdOk N i n) (hm : N ≤ M) : NdOk M i n :=
  ⟨h.kind, Nat.lt_of_lt_of_le h.a hm, Nat.lt_of_lt_of_le h.b hm, Nat.lt_of_lt_of_le h.c hm, h.k3, h.k4, h.k5⟩
def NInv (ns : List Nd) : Prop := ∀ (i : Nat) (n : Nd), ns[i]? = some n → NdOk ns.length i n
structure Grow (p p' : PS) : Prop where
  decls : p'.decls = p.decls
  nodes : ∃ l, p'.nodes = p.nodes ++ l
  inv : NInv p.nodes → NInv p'.nodes
theorem Grow.trans {p q r : PS} (h : Grow p q) (k : Grow q r) : Grow p r := by
  obtain ⟨l, hl⟩ := h.nodes
  obtain ⟨m, hm⟩ := k.nodes
  exact ⟨k.decls.trans h.decls, ⟨l ++ m, by rw [hm, hl, List.append_assoc]⟩, fun x => k.inv (h.inv x)⟩
theorem Grow.of {p q : PS} (h1 : q.decls = p.decls) (h2 : q.nodes = p.nodes) : Grow p q := ⟨h1, ⟨[], by simp [h2]⟩, fun h => by rw [h2]; exact h⟩
theorem Grow.adv (ts : List Tk) (p : PS) : Grow p (p.adv ts) := Grow.of (by simp) (by simp)
theorem Grow.len {p q : PS} (h : Grow p q) : p.nodes.length ≤ q.nodes.length := by
  obtain ⟨l, hl⟩ := h.nodes; rw [hl]; simp
theorem NInv.push {ns : List Nd} {n : Nd} (h : NInv ns) (hn : NdOk (ns.length + 1) ns.length n) : NInv (ns ++ [n]) := by
  intro i m hm
  rw [List.length_append, List.length_singleton]
  rw [List.getElem?_append] at hm
  split at hm
  · exact (h i m hm).mono (by omega)
  · rename_i hi
    cases e : i - ns.length with
    | zero =>
      rw [e] at hm
      cases hm
      have : i = ns.length := by omega
      subst this
      exact hn
    | succ j => rw [e] at hm; simp at hm
theorem take_grow {ts : List Tk} {p p' : PS} {l : List UInt8} (h : p.take ts l = .ok p') : p' = p.adv ts ∧ (p.hd ts).l = l := by
  unfold PS.take at h
  split at h
  · rename_i hl; cases h; exact ⟨rfl, hl⟩
  · cases h
def ExN (ex : Ex) : Prop := ∀ p r p', ex p = .ok (r, p') → Grow p p' ∧ r = p.nodes.length ∧ r < p'.nodes.length
theorem insideN {ts : List Tk} {ex : Ex} (hx : ExN ex) {p p' : PS} {n n' : Nd} {i : Nat} (hi : i < p.nodes.length) (h0 : n.b = 0) (h1 : n.c = 0) (he : insideF ts ex p n = .ok (n', p')) :
    Grow p p' ∧ NdOk p'.nodes.length i n' := by
  unfold insideF at he
  split at he
  · unfold notF at he
    split at he
    · cases he
    · rename_i a p1 e1
      cases he
      obtain ⟨g1, ha, hb⟩ := hx _ _ _ e1
      rw [adv_nodes] at ha
      have := g1.len
      rw [adv_nodes] at this
      exact ⟨(Grow.adv ts p).trans g1, ⟨by simp, hb, by show n.b < _; omega, by show n.c < _; omega, fun _ => by show i < a; omega, fun h => by simp at h, fun h => by simp at h⟩⟩
  split at he
  · unfold choiceF at he
    split at he
    · cases he
    · rename_i a p1 e1
      obtain ⟨g1, ha, hla⟩ := hx _ _ _ e1
      rw [adv_nodes] at ha
      split at he
      · cases he
      · rename_i b p2 e2
        obtain ⟨g2, hb, hlb⟩ := hx _ _ _ e2
        split at he
        · cases he
        · rename_i c p3 e3
          obtain ⟨g3, hc, hlc⟩ := hx _ _ _ e3
          cases he
          have l1 := g1.len
          have l2 := g2.len
          have l3 := g3.len
          rw [adv_nodes] at l1
          exact ⟨(((Grow.adv ts p).trans g1).trans g2).trans g3, ⟨by simp, by show a < _; omega, by show b < _; omega, by show c < _; omega, fun h => by simp at h, fun _ => ⟨by show i < a; omega, by show a < b; omega, by show b < c; omega⟩, fun h => by simp at h⟩⟩
  · unfold infixF at he
    split at he
    · cases he
    · rename_i a p1 e1
      obtain ⟨g1, ha, hla⟩ := hx _ _ _ e1
      have l1 := g1.len
      split at he
      · unfold delayF at he
        split at he
        · cases he
        · rename_i b p2 e2
          obtain ⟨g2, hb, hlb⟩ := hx _ _ _ e2
          cases he
          have hb' : b = p1.nodes.length := by rw [hb]; show (p1.adv ts).nodes.length = _; rw [adv_nodes]
          have g : Grow p1 { p1.adv ts with delays := (p1.adv ts).delays + 1 } := Grow.of (by simp) (by simp)
          refine ⟨((g1.trans g).trans g2).trans (Grow.of rfl rfl), ⟨by simp, by show a < p2.nodes.length; omega, by show b < p2.nodes.length; omega, by show n.c < p2.nodes.length; omega, fun h => by simp at h, fun h => by simp at h, fun _ => ⟨by show i < a; omega, by show a < b; omega⟩⟩⟩
      · unfold infixRest at he
        split at he
        · cases he
        · rename_i op ho
          split at he
          · cases he
          · rename_i b p2 e2
            obtain ⟨g2, hb, hlb⟩ := hx _ _ _ e2
            cases he
            rw [adv_nodes] at hb
            refine ⟨(g1.trans (Grow.adv ts p1)).trans g2, ⟨by simp, by show a < _; omega, by show b < _; omega, by show n.c < _; omega, fun h => by simp at h, fun h => by simp at h, fun _ => ⟨by show i < a; omega, by show a < b; omega⟩⟩⟩
theorem leafN (ts : List Tk) (p : PS) (n : Nd) (hk : n.kind ≤ 2) (ha : n.a = 0) (hb : n.b = 0) (hc : n.c = 0) :
    Grow p (leafF ts p n).2 ∧ (leafF ts p n).1 = p.nodes.length ∧ (leafF ts p n).1 < (leafF ts p n).2.nodes.length := by
  unfold leafF
  refine ⟨?_, rfl, by simp [PS.add]⟩
  refine Grow.trans (q := p.add ts n) ⟨rfl, ⟨_, rfl⟩, fun h => ?_⟩ (Grow.adv ts _)
  refine NInv.push h ⟨by show n.kind ≤ 6; omega, by show n.a < _; omega, by show n.b < _; omega, by show n.c < _; omega, fun h => ?_, fun h => ?_, fun h => ?_⟩
  · have : n.kind = 3 := h
    omega
  · have : n.kind = 4 := h
    omega
  · have : n.kind = 5 ∨ n.kind = 6 := h
    omega
theorem bracketN {ts : List Tk} {ex : Ex} (hx : ExN ex) {p p' : PS} {r : Nat} (he : bracketF ts ex p = .ok (r, p')) : Grow p p' ∧ r = p.nodes.length ∧ r < p'.nodes.length := by
  unfold bracketF at he
  split at he
  · cases he
  · rename_i n p2 e2
    have hnd : (p.add ts ndZero).nodes.getD p.nodes.length ndZero = { ndZero with pos := (p.hd ts).pos, delayed := decide (0 < p.delays), behind := decide (0 < p.next) && ((tkAt ts (p.next - 1)).l == kFby) } := by
      simp [PS.add]
    have hlen1 : ({ (p.add ts ndZero).adv ts with depth := p.depth + 1 } : PS).nodes.length = p.nodes.length + 1 := by simp [PS.add]
    obtain ⟨g2, hn⟩ := insideN hx (i := p.nodes.length) (by rw [hlen1]; omega) (by rw [hnd]; rfl) (by rw [hnd]; rfl) e2
    split at he
    · cases he
    · rename_i p3 e3
      obtain ⟨rfl, _⟩ := take_grow e3
      cases he
      obtain ⟨l, hl⟩ := g2.nodes
      have hl2 := g2.len
      rw [hlen1] at hl2
      refine ⟨?_, rfl, by simp; omega⟩
      refine Grow.trans ⟨?_, ?_, ?_⟩ (Grow.adv ts _)
      · show p2.decls = _; rw [g2.decls]; simp [PS.add]
      · refine ⟨n :: l, ?_⟩
        show p2.nodes.set p.nodes.length n = _
        rw [hl]
        simp [PS.add]
      · intro h
        have h2 := g2.inv (by
          show NInv ((p.add ts ndZero).adv ts).nodes
          rw [adv_nodes]
          exact NInv.push h ⟨by show (0:Nat) ≤ 6; omega, by show (0:Nat) < _; omega, by show (0:Nat) < _; omega, by show (0:Nat) < _; omega, fun h => (by cases h), fun h => (by cases h), fun h => (by rcases h with h | h <;> cases h)⟩)
        intro i m hm
        have hm' : (p2.nodes.set p.nodes.length n)[i]? = some m := hm
        show NdOk (p2.nodes.set p.nodes.length n).length i m
        rw [List.length_set]
        rw [List.getElem?_set] at hm'
        split at hm'
        · split at hm'
          · rename_i e _
            cases hm'
            subst e
            exact hn
          · cases hm'
        · exact h2 i m hm'
theorem exprN (ts : List Tk) : ∀ f, ExN (exprF ts f) := by
  have hatom : ∀ (p : PS) (br : Except Nat (Nat × PS)) (r : Nat) (p' : PS), (∀ r p', br = .ok (r, p') → Grow p p' ∧ r = p.nodes.length ∧ r < p'.nodes.length) → atomF ts p br = .ok (r, p') → Grow p p' ∧ r = p.nodes.length ∧ r < p'.nodes.length := by
    intro p br r p' hbr he
    unfold atomF at he
    split at he
    · exact hbr _ _ he
    split at he
    · cases he; exact leafN ts p _ (by simp) rfl rfl rfl
    split at he
    · cases he; exact leafN ts p _ (by simp) rfl rfl rfl
    split at he
    · cases he; exact leafN ts p _ (by simp) rfl rfl rfl
    split at he
    · cases he; exact leafN ts p _ (by simp) rfl rfl rfl
    · cases he
  intro f
  induction f with
  | zero => intro p r p' he; exact hatom p _ r p' (fun _ _ h => by cases h) he
  | succ f ih => intro p r p' he; exact hatom p _ r p' (fun _ _ h => bracketN ih h) he
structure DInv (p : PS) : Prop where
  nodes : NInv p.nodes
  segs : ∀ d ∈ p.decls, (d.root = 0 ∧ d.fin = 0 ∧ d.kind = 0) ∨ (d.root < d.fin ∧ d.fin ≤ p.nodes.length)
  place : ∀ d ∈ p.decls, d.place < 4
  number : ∀ d ∈ p.decls, d.kind ≠ 0 → d.number < (eqsF p.decls).length
  cover : ∀ i, i < p.nodes.length → ∃ d ∈ p.decls, d.root ≤ i ∧ i < d.fin
theorem DInv.start : DInv pZero :=
  ⟨fun i n h => (by simp [pZero] at h), fun d h => (by simp [pZero] at h), fun d h => (by simp [pZero] at h), fun d h => (by simp [pZero] at h), fun i h => (by simp [pZero] at h)⟩
theorem DInv.of {p q : PS} (h : DInv p) (h1 : q.decls = p.decls) (h2 : q.nodes = p.nodes) : DInv q := by
  obtain ⟨a, b, c, d, e⟩ := h
  exact ⟨by rw [h2]; exact a, by rw [h1, h2]; exact b, by rw [h1]; exact c, by rw [h1]; exact d, by rw [h1, h2]; exact e⟩
theorem sameSort_eqs (d : Dc) (l : List Dc) (hk : d.kind ≠ 0) : sameSort d l = (eqsF l).length := by
  unfold sameSort eqsF
  congr 1
  apply List.filter_congr
  intro a _
  have : (d.kind == 0) = false := by simpa using hk
  rw [this]
  cases h : (a.kind == 0) <;> simp [bne, h]
theorem declareInv {p p1 : PS} {d : Dc} (h : DInv p) (g : Grow p p1) (h0 : d.number = 0) (hp : d.place < 4)
    (hk : (d.kind = 0 ∧ d.root = 0 ∧ d.fin = 0 ∧ p1.nodes = p.nodes) ∨ (d.kind ≠ 0 ∧ d.root = p.nodes.length ∧ d.fin = p1.nodes.length ∧ d.root < d.fin)) : DInv (p1.declare d) := by
  have hlen := g.len
  have hds : p1.decls = p.decls := g.decls
  have hmem : ∀ e, e ∈ (p1.declare d).decls → e ∈ p.decls ∨ e = { d with number := d.number + sameSort d p1.decls } := by
    intro e he
    unfold PS.declare at he
    rw [← hds]
    simpa using he
  have heq : (eqsF (p1.declare d).decls).length = (eqsF p.decls).length + (if d.kind = 0 then 0 else 1) := by
    unfold PS.declare eqsF
    simp only [List.filter_append, List.length_append, hds]
    congr 1
    by_cases hz : d.kind = 0
    · simp [hz]
    · simp [hz]
  refine ⟨g.inv h.nodes, ?_, ?_, ?_, ?_⟩
  · intro e he
    show _ ∨ (_ ∧ e.fin ≤ p1.nodes.length)
    rcases hmem e he with he | rfl
    · rcases h.segs e he with h1 | ⟨h1, h2⟩
      · exact .inl h1
      · exact .inr ⟨h1, Nat.le_trans h2 hlen⟩
    · rcases hk with ⟨k1, k2, k3, _⟩ | ⟨k1, k2, k3, k4⟩
      · exact .inl ⟨k2, k3, k1⟩
      · exact .inr ⟨k4, Nat.le_of_eq k3⟩
  · intro e he
    rcases hmem e he with he | rfl
    · exact h.place e he
    · exact hp
  · intro e he hke
    rw [heq]
    rcases hmem e he with he | rfl
    · have := h.number e he hke; omega
    · show d.number + sameSort d p1.decls < _
      have hkd : d.kind ≠ 0 := hke
      rw [sameSort_eqs d _ hkd, hds, h0, if_neg hkd]; omega
  · intro i hi
    have hi' : i < p1.nodes.length := hi
    have hin : ∀ e, e ∈ p.decls → e ∈ (p1.declare d).decls := by intro e he; unfold PS.declare; simp [hds, he]
    rcases hk with ⟨_, _, _, k4⟩ | ⟨k1, k2, k3, k4⟩
    · rw [k4] at hi'
      obtain ⟨e, he, h1, h2⟩ := h.cover i hi'
      exact ⟨e, hin e he, h1, h2⟩
    · by_cases hc : i < p.nodes.length
      · obtain ⟨e, he, h1, h2⟩ := h.cover i hc
        exact ⟨e, hin e he, h1, h2⟩
      · exact ⟨{ d with number := d.number + sameSort d p1.decls }, by unfold PS.declare; simp, by show d.root ≤ i; omega, by show i < d.fin; omega⟩
theorem declarationInv {ts : List Tk} {p p' : PS} (h : DInv p) (he : declarationF ts p = .ok p') : DInv p' := by
  have inp : inputF ts p = .ok p' → DInv p' := by
    intro he
    unfold inputF at he
    split at he
    · obtain ⟨rfl, _⟩ := take_grow he
      refine DInv.of ?_ (adv_decls ts _) (adv_nodes ts _)
      exact declareInv h ((Grow.adv ts p).trans (Grow.adv ts _)) rfl (by show (0:Nat) < 4; decide) (.inl ⟨rfl, rfl, rfl, by simp⟩)
    · cases he
  have eqn : ∀ kind, kind ≠ 0 → equationF ts kind p = .ok p' → DInv p' := by
    intro kind hk he
    unfold equationF at he
    split at he
    · split at he
      · cases he
      rename_i p1 e1
      obtain ⟨rfl, _⟩ := take_grow e1
      split at he
      · cases he
      rename_i pl p2 e2
      unfold placeF at e2
      split at e2
      · rename_i hpl
        cases e2
        split at he
        · cases he
        rename_i p3 e3
        obtain ⟨rfl, _⟩ := take_grow e3
        split at he
        · cases he
        rename_i r p4 e4
        obtain ⟨g, hr, hlt⟩ := exprN ts 16 _ _ _ e4
        obtain ⟨rfl, _⟩ := take_grow he
        have g0 : Grow p p4 := Grow.trans (Grow.of (by simp) (by simp)) g
        have hr' : r = p.nodes.length := by rw [hr]; simp
        refine DInv.of ?_ (adv_decls ts _) (adv_nodes ts _)
        exact declareInv h g0 rfl hpl.2 (.inr ⟨hk, hr', rfl, hlt⟩)
      · cases e2
    · cases he
  unfold declarationF at he
  split at he
  · exact inp he
  split at he
  · exact eqn 1 (by decide) he
  split at he
  · exact eqn 2 (by decide) he
  · cases he
theorem declsInv {ts : List Tk} : ∀ f p p', DInv p → declsF ts f p = .ok p' → DInv p' := by
  intro f
  induction f with
  | zero => intro p p' h he; cases he; exact h
  | succ f ih =>
    intro p p' h he
    unfold declsF at he
    split at he
    · cases he; exact h
    · split at he
      · cases he
      · rename_i q e1
        exact ih _ _ (declarationInv h e1) he
theorem declsWf {ts : List Tk} (ht : TsOk ts) : ∀ f p p', p.Wf ts → p.depth = 0 → declsF ts f p = .ok p' → p'.Wf ts := by
  intro f
  induction f with
  | zero => intro p p' h _ he; cases he; exact h
  | succ f ih =>
    intro p p' h h0 he
    unfold declsF at he
    split at he
    · cases he; exact h
    · split at he
      · cases he
      · rename_i q e1
        have s := declaration_step ht h h0 e1
        exact ih _ _ s.wf (s.depth.trans h0) he
theorem bindF_keep (l : List Dc) (n : Nd) : (bindF l n).kind = n.kind ∧ (bindF l n).a = n.a ∧ (bindF l n).b = n.b ∧ (bindF l n).c = n.c := by
  unfold bindF; split <;> exact ⟨rfl, rfl, rfl, rfl⟩
theorem findF_range (l : List Dc) (name : ByteArray) : -1 ≤ findF l name ∧ findF l name < (l.length : Int) := by
  unfold findF
  split
  · rename_i i h
    have := List.findIdx?_eq_some_iff_getElem.1 h
    obtain ⟨h1, _⟩ := this
    omega
  · omega
theorem badName_none {all : List Dc} {ns : List Nd} : ∀ l i, badNameF all ns i l = none → ∀ d ∈ l, badNodeF (seg ns d.root d.fin) = none := by
  intro l
  induction l with
  | nil => intro i _ d hd; simp at hd
  | cons e l ih =>
    intro i h d hd
    unfold badNameF at h
    split at h
    · cases h
    · split at h
      · cases h
      · rename_i hb
        rcases List.mem_cons.1 hd with rfl | hd
        · exact hb
        · exact ih _ h d hd
theorem badNode_none : ∀ l : List Nd, badNodeF l = none → ∀ n ∈ l, n.kind = 2 → 0 ≤ n.decl := by
  intro l
  induction l with
  | nil => intro _ n hn; simp at hn
  | cons m l ih =>
    intro h n hn hk
    unfold badNodeF at h
    split at h
    · cases h
    · rename_i hm
      rcases List.mem_cons.1 hn with rfl | hn
      · exact Int.not_lt.1 (fun hlt => hm ⟨hk, hlt⟩)
      · exact ih h n hn hk
theorem links_src {ds : List Dc} {ns : List Nd} (P : Nat → Prop) : ∀ l i, (∀ d ∈ l, d.kind ≠ 0 → P d.number) → ∀ r ∈ linksFrom ds ns i l, P r.src ∧ r.dst < 4 := by
  have hto : ∀ i d q, ∀ r ∈ linksTo ds ns i d q, r.src = d.number ∧ r.dst < q := by
    intro i d q
    induction q with
    | zero => intro r hr; simp [linksTo] at hr
    | succ q ih =>
      intro r hr
      simp only [linksTo, List.mem_append] at hr
      rcases hr with hr | hr
      · have := ih r hr; exact ⟨this.1, by omega⟩
      · unfold linkAt at hr
        split at hr
        · simp at hr; subst hr; exact ⟨rfl, Nat.lt_succ_self _⟩
        · simp at hr
  intro l
  induction l with
  | nil => intro i _ r hr; simp [linksFrom] at hr
  | cons d l ih =>
    intro i h r hr
    simp only [linksFrom, List.mem_append] at hr
    rcases hr with hr | hr
    · split at hr
      · simp at hr
      · rename_i hk
        obtain ⟨h1, h2⟩ := hto i d 4 r hr
        exact ⟨by rw [h1]; exact h d (List.mem_cons_self ..) hk, h2⟩
    · exact ih (i + 1) (fun e he => h e (List.mem_cons_of_mem _ he)) r hr
theorem links_len {ds : List Dc} {ns : List Nd} : ∀ l i, (linksFrom ds ns i l).length ≤ 4 * l.length := by
  intro l
  induction l with
  | nil => intro i; simp [linksFrom]
  | cons d l ih =>
    intro i
    simp only [linksFrom, List.length_append, List.length_cons]
    have := ih (i + 1)
    have := linksTo_len ds ns i d 4
    split
    · simp; omega
    · omega
theorem good_parse (s : ByteArray) (hs : s.size ≤ 1500) (p : PS) (h : parseF s = .ok p) : Good p.decls (boundN p) := by
  have ht := toks_ok s hs
  have hi := declsInv _ _ _ DInv.start h
  have hw := declsWf ht _ _ _ (pZero_wf ht) rfl h
  have hl := ht.1
  have hn := hw.next
  have hnn := hw.nodes
  have hnd := hw.decls
  have hbl : (boundN p).length = p.nodes.length := by simp [boundN]
  have hget : ∀ i (hi' : i < (boundN p).length), ∃ m, p.nodes[i]? = some m ∧ (boundN p)[i]'hi' = bindF p.decls m := by
    intro i hi'
    have : i < p.nodes.length := by rw [← hbl]; exact hi'
    exact ⟨p.nodes[i]'this, by simp [this], by simp [boundN]⟩
  have hmem : ∀ n ∈ boundN p, ∃ (i : Nat) (m : Nd), p.nodes[i]? = some m ∧ n = bindF p.decls m := by
    intro n hn
    obtain ⟨i, hi', rfl⟩ := List.getElem_of_mem hn
    obtain ⟨m, h1, h2⟩ := hget i hi'
    exact ⟨i, m, h1, h2⟩
  refine ⟨⟨by omega, by omega, ?_, ?_, ?_, ?_, hi.place, ?_⟩, ?_, ?_, ?_⟩
  · rw [hbl]; exact hi.segs
  · intro n hn
    obtain ⟨i, m, h1, rfl⟩ := hmem n hn
    obtain ⟨_, e2, e3, e4⟩ := bindF_keep p.decls m
    have := hi.nodes i m h1
    rw [hbl, e2, e3, e4]
    exact ⟨this.a, this.b, this.c⟩
  · intro n hn hk
    obtain ⟨i, m, h1, rfl⟩ := hmem n hn
    have hk' : m.kind = 2 := by rw [← (bindF_keep p.decls m).1]; exact hk
    unfold bindF
    rw [if_pos hk']
    exact findF_range _ _
  · intro n hn
    obtain ⟨i, m, h1, rfl⟩ := hmem n hn
    rw [(bindF_keep p.decls m).1]
    exact (hi.nodes i m h1).kind
  · intro i hi'
    obtain ⟨m, h1, h2⟩ := hget i hi'
    obtain ⟨e1, e2, e3, e4⟩ := bindF_keep p.decls m
    rw [h2, e1, e2, e3, e4]
    have := hi.nodes i m h1
    exact ⟨this.k3, this.k4, this.k5⟩
  · intro hb n hn hk
    obtain ⟨i, hi', rfl⟩ := List.getElem_of_mem hn
    obtain ⟨d, hd, h1, h2⟩ := hi.cover i (by rw [← hbl]; exact hi')
    refine badNode_none _ (badName_none _ _ hb d hd) _ ?_ hk
    unfold seg
    refine List.mem_iff_getElem.2 ⟨i - d.root, ?_, ?_⟩
    · simp; omega
    · simp [Nat.add_sub_cancel' h1]
  · intro r hr
    exact links_src (fun k => k < (eqsF p.decls).length) _ _ (fun d hd hk => hi.number d hd hk) r hr
  · have := links_len (ds := p.decls) (ns := boundN p) p.decls 0
    show (linksFrom p.decls (boundN p) 0 p.decls).length ≤ 6100
    omega
def All2 {α β : Type} (R : α → β → Prop) : List α → List β → Prop
  | [], [] => True
  | a :: l, b :: m => R a b ∧ All2 R l m
  | _, _ => False
theorem All2.len {α β : Type} {R : α → β → Prop} : ∀ {l : List α} {m : List β}, All2 R l m → m.length = l.length := by
  intro l
  induction l with
  | nil => intro m h; cases m with
    | nil => rfl
    | cons b m => exact h.elim
  | cons a l ih => intro m h; cases m with
    | nil => exact h.elim
    | cons b m => simp [ih h.2]
theorem All2.filter {α β : Type} {R : α → β → Prop} {f : α → Bool} {g : β → Bool} (hfg : ∀ a b, R a b → g b = f a) : ∀ {l : List α} {m : List β}, All2 R l m → All2 R (l.filter f) (m.filter g) := by
  intro l
  induction l with
  | nil => intro m h; cases m with
    | nil => exact h
    | cons b m => exact h.elim
  | cons c l ih => intro m h; cases m with
    | nil => exact h.elim
    | cons d m =>
      rw [List.filter_cons, List.filter_cons, hfg c d h.1]
      split
      · exact ⟨h.1, ih h.2⟩
      · exact ih h.2

def kwL : List (List UInt8) := [[40], [41], [59], [61], [43], [45], [42], [47], [60], [38], [124], kIn, kInt, kBool, kAt, kIf, kFby, kNot, kTrue, kFalse]
section
variable {k : Nat} {ts ts' : List Tk}
end
section
variable {k : Nat} {ts ts' : List Tk}
end
def RTk.l (t : RTk) : List UInt8 := t.word.data.toList
def rlit (t : RTk) : Bool := t.c == 110 || t.l == kTrue || t.l == kFalse
def rop (l : List UInt8) : Bool := (opOf l).isSome
def insF (t : RTk) : List UInt8 × Bool × Bool :=
  if t.l = kNot then ([69], true, true)
  else if t.l = kIf then ([69, 69, 69], true, true)
  else if rlit t = true then ([76], true, true)
  else if t.c = 97 then ([79], true, true)
  else ([69, 79], false, t.l == [40])
def ruleF (x : Nat) (t : RTk) (depth : Int) : List UInt8 × Bool × Bool :=
  if x = 80 then (if t.l = kIn then ([97, 59, 80], true, true) else ([97, 84, 81, 61, 69, 59, 80], true, t.l == kInt || t.l == kBool))
  else if x = 97 then ([], true, t.c == 97)
  else if x = 84 then ([], true, t.l == kAt)
  else if x = 81 then ([], true, t.c == 110 && decide (t.n < 4))
  else if x = 69 then (if t.l = [40] then ([73, 41], true, decide (depth < 16)) else ([], true, rlit t || t.c == 97))
  else if x = 73 then insF t
  else if x = 76 then ([69], true, rop t.l || t.l == kFby)
  else if x = 79 then ([69], true, rop t.l)
  else ([], true, t.c == 115 && ((t.l.getD 0 0).toNat == x))
end Go.Proofs.Ytmndgoapkmhglab
namespace Go.Proofs.Ytmndgoapkmhglab
open Go.RowKit
def EvBox (w : World) (A : Nat) (k a d n : Int) (vT vV : Value) : Prop := w.rowIs A 41 6 (fun i => if i = 0 then .int .i64 k else if i = 1 then .int .i64 a else if i = 2 then .int .i64 d else if i = 3 then .int .i64 n else if i = 4 then vT else vV)
theorem EvBox.boxed (w : World) (k a d n : Int) (vT vV : Value) : EvBox (w.alloc (.cells #[.int .i64 k, .int .i64 a, .int .i64 d, .int .i64 n, vT, vV] 41)) w.heap.size k a d n vT vV :=
  World.rowIs_alloc w #[.int .i64 k, .int .i64 a, .int .i64 d, .int .i64 n, vT, vV] _ _ (fun i hi => by
    have : i < 6 := hi
    have : i = 0 ∨ i = 1 ∨ i = 2 ∨ i = 3 ∨ i = 4 ∨ i = 5 := by omega
    rcases this with rfl | rfl | rfl | rfl | rfl | rfl <;> rfl)
end Go.Proofs.Ytmndgoapkmhglab
