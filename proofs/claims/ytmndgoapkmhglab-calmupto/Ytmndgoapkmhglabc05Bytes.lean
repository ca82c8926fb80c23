import Derived.Test.Ytmndgoapkmhglabc00Base
import Derived.Test.Ytmndgoapkmhglabc02Tkl
import Derived.Test.Ytmndgoapkmhglabc03ParA
/- Plain mathematics: links, and places that wait for each other. -/
namespace Go.Proofs.Ytmndgoapkmhglab

def usesSeg (decl : Nat) : List Nd → Bool → Bool → Bool × Bool
  | [], u, p => (u, p)
  | n :: r, u, p => if n.kind = 2 ∧ n.decl = (decl : Int) then usesSeg decl r true (p || !n.behind) else usesSeg decl r u p
def usesAll (ns : List Nd) (decl place : Nat) : List Dc → Bool → Bool → Bool × Bool
  | [], u, p => (u, p)
  | d :: r, u, p => if d.kind = 0 ∨ d.place ≠ place then usesAll ns decl place r u p
      else usesAll ns decl place r (usesSeg decl (seg ns d.root d.fin) u p).1 (usesSeg decl (seg ns d.root d.fin) u p).2
def usesF (ds : List Dc) (ns : List Nd) (decl place : Nat) : Bool × Bool := usesAll ns decl place ds false false

structure Rt where
  src : Nat
  dst : Nat
  late : Bool

def linkAt (ds : List Dc) (ns : List Nd) (i : Nat) (d : Dc) (q : Nat) : List Rt :=
  if (usesF ds ns i q).1 = true ∧ q ≠ d.place then [⟨d.number, q, !(usesF ds ns i q).2⟩] else []
def linksTo (ds : List Dc) (ns : List Nd) (i : Nat) (d : Dc) : Nat → List Rt
  | 0 => []
  | q + 1 => linksTo ds ns i d q ++ linkAt ds ns i d q
/-- the links of the declarations from k on. -/
def linksFrom (ds : List Dc) (ns : List Nd) : Nat → List Dc → List Rt
  | _, [] => []
  | i, d :: r => (if d.kind = 0 then [] else linksTo ds ns i d 4) ++ linksFrom ds ns (i + 1) r
def linksF (ds : List Dc) (ns : List Nd) : List Rt := linksFrom ds ns 0 ds

def eqsF (ds : List Dc) : List Dc := ds.filter fun d => d.kind != 0
def waitsM (es : List Dc) : List Rt → Mx → Mx
  | [], M => M
  | r :: l, M => waitsM es l (if r.late = true then M else upd M r.dst (es.getD r.src ⟨0, 0, ⟨#[]⟩, 0, 0, 0, 0⟩).place true)
def firstAt (M : Mx) : List Dc → Option Nat
  | [] => none
  | d :: r => if M d.place d.place then some d.pos else firstAt M r
def loopF (ds : List Dc) (ns : List Nd) : Option Nat := firstAt (warsh (waitsM (eqsF ds) (linksF ds ns) noM) 4) (eqsF ds)

theorem linksTo_len (ds : List Dc) (ns : List Nd) (i : Nat) (d : Dc) : ∀ q, (linksTo ds ns i d q).length ≤ q := by
  intro q
  induction q with
  | zero => simp [linksTo]
  | succ q ih =>
    simp only [linksTo, List.length_append, linkAt]
    split <;> simp <;> omega

end Go.Proofs.Ytmndgoapkmhglab

/- Plain mathematics: what the program answers of a text. -/
namespace Go.Proofs.Ytmndgoapkmhglab

def meaningF (ds : List Dc) (ns : List Nd) : Nat × Nat :=
  match tooManyF ds with
  | some a => (3, a)
  | none => match badNameF ds ns 0 ds with
    | some a => (4, a)
    | none => match badTypeF ds 0 ns (roots ds (List.replicate ns.length false)) with
      | some a => (5, a)
      | none => match cycleF ds ns with
        | some a => (6, a)
        | none => match loopF ds ns with
          | some a => (7, a)
          | none => (0, 0)

structure Good (ds : List Dc) (ns : List Nd) : Prop where
  wf : ProgWf ds ns
  names : badNameF ds ns 0 ds = none → ∀ n ∈ ns, n.kind = 2 → 0 ≤ n.decl
  links : ∀ r ∈ linksF ds ns, r.src < (eqsF ds).length ∧ r.dst < 4
  many : (linksF ds ns).length ≤ 6100

/-- the nodes with their names bound. -/
def boundN (p : PS) : List Nd := p.nodes.map (bindF p.decls)

/-- the error and the place. -/
def textF (s : ByteArray) : Nat × Nat :=
  if 1500 < s.size then (1, 0)
  else match parseF s with
    | .error k => (2, (tkAt (toks s) k).pos)
    | .ok p => meaningF p.decls (boundN p)

end Go.Proofs.Ytmndgoapkmhglab

/- Plain mathematics: tokens of digits. -/
namespace Go.Proofs.Ytmndgoapkmhglab

/-- a token of digits alone. -/
def DigTok (t : Tk) : Prop := t.kind = 3 → t.text.size ≤ 18 ∧ ∀ c ∈ t.text.data.toList, 48 ≤ c.toNat ∧ c.toNat ≤ 57
def TsDig (ts : List Tk) : Prop := ∀ i, i < ts.length → DigTok (tkAt ts i)

/-- the tokens of a text that are numbers are made of digits. -/
theorem runTo_all (s : ByteArray) (cl : Nat) : ∀ f k j, k ≤ j → j < runTo s cl f k → cls (byt s j) = cl ∧ j < s.size := by
  intro f
  induction f with
  | zero => intro k j h1 h2; simp only [runTo] at h2; omega
  | succ f ih =>
    intro k j h1 h2
    simp only [runTo] at h2
    split at h2
    · rename_i hc
      by_cases e : j = k
      · subst e; exact ⟨hc.2, hc.1⟩
      · exact ih (k + 1) j (by omega) h2
    · omega

theorem cls_two {c : Nat} (h : cls c = 2) : 48 ≤ c ∧ c ≤ 57 := by
  unfold cls at h
  split at h
  · cases h
  split at h
  · cases h
  split at h
  · assumption
  split at h <;> cases h

theorem toks_dig (s : ByteArray) : TsDig (toks s) := by
  have key : ∀ f k, ∀ t ∈ toksFrom s f k, DigTok t := by
    intro f
    induction f with
    | zero => intro k t ht; simp [toksFrom] at ht
    | succ f ih =>
      intro k t ht
      simp only [toksFrom] at ht
      split at ht
      · rename_i hk
        split at ht
        · exact ih _ t ht
        · rcases List.mem_cons.1 ht with rfl | ht
          · intro hkind
            have hk2 : kindK (s.extract k (endOf s k)).data.toList (cls (byt s k)) = 3 := hkind
            unfold kindK at hk2
            split at hk2
            · unfold wordK at hk2
              split at hk2
              · cases hk2
              split at hk2 <;> cases hk2
            split at hk2
            · rename_i hc2
              unfold numK at hk2
              split at hk2
              · cases hk2
              rename_i h18
              have hsz : (s.extract k (endOf s k)).data.toList.length = (s.extract k (endOf s k)).size := size_len _
              refine ⟨by show (s.extract k (endOf s k)).size ≤ 18; omega, ?_⟩
              show ∀ c ∈ (s.extract k (endOf s k)).data.toList, 48 ≤ c.toNat ∧ c.toNat ≤ 57
              intro c hc
              obtain ⟨j, hj, rfl⟩ := List.getElem_of_mem hc
              have hle := endOf_le s k hk
              have hjs : j < endOf s k - k := by
                rw [hsz, ByteArray.size_extract] at hj
                omega
              have hkj : k + j < s.size := by omega
              have hcl : cls (byt s (k + j)) = 2 := by
                by_cases e : j = 0
                · subst e; exact hc2
                · have he : endOf s k = runTo s 2 (s.size - (k + 1)) (k + 1) := by unfold endOf; rw [if_pos (.inr hc2), hc2]
                  rw [he] at hjs
                  exact (runTo_all s 2 (s.size - (k + 1)) (k + 1) (k + j) (by omega) (by omega)).1
              have hget : (s.extract k (endOf s k)).data.toList[j]'hj = s.data.toList[k + j]'(by rw [size_len]; exact hkj) := by
                simp
              have hb : byt s (k + j) = ((s.extract k (endOf s k)).data.toList[j]'hj).toNat := by
                rw [hget]
                unfold byt
                simp [hkj]
              have h2 := cls_two hcl
              rw [hb] at h2
              exact h2
            · split at hk2 <;> cases hk2
          · exact ih _ t ht
      · simp at ht
  intro i hi
  have hm : tkAt (toks s) i ∈ toks s := by
    unfold tkAt
    rw [List.getD_eq_getElem?_getD, List.getElem?_eq_getElem hi]
    exact List.getElem_mem hi
  generalize tkAt (toks s) i = t at hm ⊢
  unfold toks at hm
  rcases List.mem_append.1 hm with h | h
  · exact key _ _ _ h
  · simp at h
    rw [h]
    intro hk
    cases hk


end Go.Proofs.Ytmndgoapkmhglab

/- Plain mathematics: what the parser lets through is as the judge asks. -/
namespace Go.Proofs.Ytmndgoapkmhglab

structure NdOk (N i : Nat) (n : Nd) : Prop where
  kind : n.kind ≤ 6
  a : n.a < N
  b : n.b < N
  c : n.c < N
  k3 : n.kind = 3 → i < n.a
  k4 : n.kind = 4 → i < n.a ∧ n.a < n.b ∧ n.b < n.c
  k5 : n.kind = 5 ∨ n.kind = 6 → i < n.a ∧ n.a < n.b

theorem NdOk.mono {N M i : Nat} {n : Nd} (h : NdOk N i n) (hm : N ≤ M) : NdOk M i n :=
  ⟨h.kind, Nat.lt_of_lt_of_le h.a hm, Nat.lt_of_lt_of_le h.b hm, Nat.lt_of_lt_of_le h.c hm, h.k3, h.k4, h.k5⟩

def NInv (ns : List Nd) : Prop := ∀ (i : Nat) (n : Nd), ns[i]? = some n → NdOk ns.length i n

structure Grow (p p' : PS) : Prop where
  decls : p'.decls = p.decls
  nodes : ∃ l, p'.nodes = p.nodes ++ l
  inv : NInv p.nodes → NInv p'.nodes

theorem Grow.refl (p : PS) : Grow p p := ⟨rfl, ⟨[], by simp⟩, fun h => h⟩
theorem Grow.trans {p q r : PS} (h : Grow p q) (k : Grow q r) : Grow p r := by
  obtain ⟨l, hl⟩ := h.nodes
  obtain ⟨m, hm⟩ := k.nodes
  exact ⟨k.decls.trans h.decls, ⟨l ++ m, by rw [hm, hl, List.append_assoc]⟩, fun x => k.inv (h.inv x)⟩
theorem Grow.of {p q : PS} (h1 : q.decls = p.decls) (h2 : q.nodes = p.nodes) : Grow p q := ⟨h1, ⟨[], by simp [h2]⟩, fun h => by rw [h2]; exact h⟩
theorem Grow.adv (ts : List Tk) (p : PS) : Grow p (p.adv ts) := Grow.of (by simp) (by simp)
theorem Grow.len {p q : PS} (h : Grow p q) : p.nodes.length ≤ q.nodes.length := by
  obtain ⟨l, hl⟩ := h.nodes; rw [hl]; simp

theorem NInv.push {ns : List Nd} {n : Nd} (h : NInv ns) (hn : NdOk (ns.length + 1) ns.length n) : NInv (ns ++ [n]) := by
  intro i m hm
  rw [List.length_append, List.length_singleton]
  rw [List.getElem?_append] at hm
  split at hm
  · exact (h i m hm).mono (by omega)
  · rename_i hi
    cases e : i - ns.length with
    | zero =>
      rw [e] at hm
      cases hm
      have : i = ns.length := by omega
      subst this
      exact hn
    | succ j => rw [e] at hm; simp at hm

theorem take_grow {ts : List Tk} {p p' : PS} {l : List UInt8} (h : p.take ts l = .ok p') : p' = p.adv ts ∧ (p.hd ts).l = l := by
  unfold PS.take at h
  split at h
  · rename_i hl; cases h; exact ⟨rfl, hl⟩
  · cases h

def ExN (ex : Ex) : Prop := ∀ p r p', ex p = .ok (r, p') → Grow p p' ∧ r = p.nodes.length ∧ r < p'.nodes.length

theorem insideN {ts : List Tk} {ex : Ex} (hx : ExN ex) {p p' : PS} {n n' : Nd} {i : Nat} (hi : i < p.nodes.length) (h0 : n.b = 0) (h1 : n.c = 0) (he : insideF ts ex p n = .ok (n', p')) :
    Grow p p' ∧ NdOk p'.nodes.length i n' := by
  unfold insideF at he
  split at he
  · unfold notF at he
    split at he
    · cases he
    · rename_i a p1 e1
      cases he
      obtain ⟨g1, ha, hb⟩ := hx _ _ _ e1
      rw [adv_nodes] at ha
      have := g1.len
      rw [adv_nodes] at this
      exact ⟨(Grow.adv ts p).trans g1, ⟨by simp, hb, by show n.b < _; omega, by show n.c < _; omega, fun _ => by show i < a; omega, fun h => by simp at h, fun h => by simp at h⟩⟩
  split at he
  · unfold choiceF at he
    split at he
    · cases he
    · rename_i a p1 e1
      obtain ⟨g1, ha, hla⟩ := hx _ _ _ e1
      rw [adv_nodes] at ha
      split at he
      · cases he
      · rename_i b p2 e2
        obtain ⟨g2, hb, hlb⟩ := hx _ _ _ e2
        split at he
        · cases he
        · rename_i c p3 e3
          obtain ⟨g3, hc, hlc⟩ := hx _ _ _ e3
          cases he
          have l1 := g1.len
          have l2 := g2.len
          have l3 := g3.len
          rw [adv_nodes] at l1
          exact ⟨(((Grow.adv ts p).trans g1).trans g2).trans g3, ⟨by simp, by show a < _; omega, by show b < _; omega, by show c < _; omega, fun h => by simp at h, fun _ => ⟨by show i < a; omega, by show a < b; omega, by show b < c; omega⟩, fun h => by simp at h⟩⟩
  · unfold infixF at he
    split at he
    · cases he
    · rename_i a p1 e1
      obtain ⟨g1, ha, hla⟩ := hx _ _ _ e1
      have l1 := g1.len
      split at he
      · unfold delayF at he
        split at he
        · cases he
        · rename_i b p2 e2
          obtain ⟨g2, hb, hlb⟩ := hx _ _ _ e2
          cases he
          have hb' : b = p1.nodes.length := by rw [hb]; show (p1.adv ts).nodes.length = _; rw [adv_nodes]
          have g : Grow p1 { p1.adv ts with delays := (p1.adv ts).delays + 1 } := Grow.of (by simp) (by simp)
          refine ⟨((g1.trans g).trans g2).trans (Grow.of rfl rfl), ⟨by simp, by show a < p2.nodes.length; omega, by show b < p2.nodes.length; omega, by show n.c < p2.nodes.length; omega, fun h => by simp at h, fun h => by simp at h, fun _ => ⟨by show i < a; omega, by show a < b; omega⟩⟩⟩
      · unfold infixRest at he
        split at he
        · cases he
        · rename_i op ho
          split at he
          · cases he
          · rename_i b p2 e2
            obtain ⟨g2, hb, hlb⟩ := hx _ _ _ e2
            cases he
            rw [adv_nodes] at hb
            refine ⟨(g1.trans (Grow.adv ts p1)).trans g2, ⟨by simp, by show a < _; omega, by show b < _; omega, by show n.c < _; omega, fun h => by simp at h, fun h => by simp at h, fun _ => ⟨by show i < a; omega, by show a < b; omega⟩⟩⟩

theorem leafN (ts : List Tk) (p : PS) (n : Nd) (hk : n.kind ≤ 2) (ha : n.a = 0) (hb : n.b = 0) (hc : n.c = 0) :
    Grow p (leafF ts p n).2 ∧ (leafF ts p n).1 = p.nodes.length ∧ (leafF ts p n).1 < (leafF ts p n).2.nodes.length := by
  unfold leafF
  refine ⟨?_, rfl, by simp [PS.add]⟩
  refine Grow.trans (q := p.add ts n) ⟨rfl, ⟨_, rfl⟩, fun h => ?_⟩ (Grow.adv ts _)
  refine NInv.push h ⟨by show n.kind ≤ 6; omega, by show n.a < _; omega, by show n.b < _; omega, by show n.c < _; omega, fun h => ?_, fun h => ?_, fun h => ?_⟩
  · have : n.kind = 3 := h
    omega
  · have : n.kind = 4 := h
    omega
  · have : n.kind = 5 ∨ n.kind = 6 := h
    omega

theorem bracketN {ts : List Tk} {ex : Ex} (hx : ExN ex) {p p' : PS} {r : Nat} (he : bracketF ts ex p = .ok (r, p')) : Grow p p' ∧ r = p.nodes.length ∧ r < p'.nodes.length := by
  unfold bracketF at he
  split at he
  · cases he
  · rename_i n p2 e2
    have hnd : (p.add ts ndZero).nodes.getD p.nodes.length ndZero = { ndZero with pos := (p.hd ts).pos, delayed := decide (0 < p.delays), behind := decide (0 < p.next) && ((tkAt ts (p.next - 1)).l == kFby) } := by
      simp [PS.add]
    have hlen1 : ({ (p.add ts ndZero).adv ts with depth := p.depth + 1 } : PS).nodes.length = p.nodes.length + 1 := by simp [PS.add]
    obtain ⟨g2, hn⟩ := insideN hx (i := p.nodes.length) (by rw [hlen1]; omega) (by rw [hnd]; rfl) (by rw [hnd]; rfl) e2
    split at he
    · cases he
    · rename_i p3 e3
      obtain ⟨rfl, _⟩ := take_grow e3
      cases he
      obtain ⟨l, hl⟩ := g2.nodes
      have hl2 := g2.len
      rw [hlen1] at hl2
      refine ⟨?_, rfl, by simp; omega⟩
      refine Grow.trans ⟨?_, ?_, ?_⟩ (Grow.adv ts _)
      · show p2.decls = _; rw [g2.decls]; simp [PS.add]
      · refine ⟨n :: l, ?_⟩
        show p2.nodes.set p.nodes.length n = _
        rw [hl]
        simp [PS.add]
      · intro h
        have h2 := g2.inv (by
          show NInv ((p.add ts ndZero).adv ts).nodes
          rw [adv_nodes]
          exact NInv.push h ⟨by show (0:Nat) ≤ 6; omega, by show (0:Nat) < _; omega, by show (0:Nat) < _; omega, by show (0:Nat) < _; omega, fun h => (by cases h), fun h => (by cases h), fun h => (by rcases h with h | h <;> cases h)⟩)
        intro i m hm
        have hm' : (p2.nodes.set p.nodes.length n)[i]? = some m := hm
        show NdOk (p2.nodes.set p.nodes.length n).length i m
        rw [List.length_set]
        rw [List.getElem?_set] at hm'
        split at hm'
        · split at hm'
          · rename_i e _
            cases hm'
            subst e
            exact hn
          · cases hm'
        · exact h2 i m hm'

theorem exprN (ts : List Tk) : ∀ f, ExN (exprF ts f) := by
  have hatom : ∀ (p : PS) (br : Except Nat (Nat × PS)) (r : Nat) (p' : PS), (∀ r p', br = .ok (r, p') → Grow p p' ∧ r = p.nodes.length ∧ r < p'.nodes.length) → atomF ts p br = .ok (r, p') → Grow p p' ∧ r = p.nodes.length ∧ r < p'.nodes.length := by
    intro p br r p' hbr he
    unfold atomF at he
    split at he
    · exact hbr _ _ he
    split at he
    · cases he; exact leafN ts p _ (by simp) rfl rfl rfl
    split at he
    · cases he; exact leafN ts p _ (by simp) rfl rfl rfl
    split at he
    · cases he; exact leafN ts p _ (by simp) rfl rfl rfl
    split at he
    · cases he; exact leafN ts p _ (by simp) rfl rfl rfl
    · cases he
  intro f
  induction f with
  | zero => intro p r p' he; exact hatom p _ r p' (fun _ _ h => by cases h) he
  | succ f ih => intro p r p' he; exact hatom p _ r p' (fun _ _ h => bracketN ih h) he

/-- what holds of the declarations and nodes between two declarations. -/
structure DInv (p : PS) : Prop where
  nodes : NInv p.nodes
  segs : ∀ d ∈ p.decls, (d.root = 0 ∧ d.fin = 0 ∧ d.kind = 0) ∨ (d.root < d.fin ∧ d.fin ≤ p.nodes.length)
  place : ∀ d ∈ p.decls, d.place < 4
  number : ∀ d ∈ p.decls, d.kind ≠ 0 → d.number < (eqsF p.decls).length
  cover : ∀ i, i < p.nodes.length → ∃ d ∈ p.decls, d.root ≤ i ∧ i < d.fin

theorem DInv.start : DInv pZero :=
  ⟨fun i n h => (by simp [pZero] at h), fun d h => (by simp [pZero] at h), fun d h => (by simp [pZero] at h), fun d h => (by simp [pZero] at h), fun i h => (by simp [pZero] at h)⟩

theorem DInv.of {p q : PS} (h : DInv p) (h1 : q.decls = p.decls) (h2 : q.nodes = p.nodes) : DInv q := by
  obtain ⟨a, b, c, d, e⟩ := h
  exact ⟨by rw [h2]; exact a, by rw [h1, h2]; exact b, by rw [h1]; exact c, by rw [h1]; exact d, by rw [h1, h2]; exact e⟩

theorem sameSort_eqs (d : Dc) (l : List Dc) (hk : d.kind ≠ 0) : sameSort d l = (eqsF l).length := by
  unfold sameSort eqsF
  congr 1
  apply List.filter_congr
  intro a _
  have : (d.kind == 0) = false := by simpa using hk
  rw [this]
  cases h : (a.kind == 0) <;> simp [bne, h]

theorem declareInv {p p1 : PS} {d : Dc} (h : DInv p) (g : Grow p p1) (h0 : d.number = 0) (hp : d.place < 4)
    (hk : (d.kind = 0 ∧ d.root = 0 ∧ d.fin = 0 ∧ p1.nodes = p.nodes) ∨ (d.kind ≠ 0 ∧ d.root = p.nodes.length ∧ d.fin = p1.nodes.length ∧ d.root < d.fin)) : DInv (p1.declare d) := by
  have hlen := g.len
  have hds : p1.decls = p.decls := g.decls
  have hmem : ∀ e, e ∈ (p1.declare d).decls → e ∈ p.decls ∨ e = { d with number := d.number + sameSort d p1.decls } := by
    intro e he
    unfold PS.declare at he
    rw [← hds]
    simpa using he
  have heq : (eqsF (p1.declare d).decls).length = (eqsF p.decls).length + (if d.kind = 0 then 0 else 1) := by
    unfold PS.declare eqsF
    simp only [List.filter_append, List.length_append, hds]
    congr 1
    by_cases hz : d.kind = 0
    · simp [hz]
    · simp [hz]
  refine ⟨g.inv h.nodes, ?_, ?_, ?_, ?_⟩
  · intro e he
    show _ ∨ (_ ∧ e.fin ≤ p1.nodes.length)
    rcases hmem e he with he | rfl
    · rcases h.segs e he with h1 | ⟨h1, h2⟩
      · exact .inl h1
      · exact .inr ⟨h1, Nat.le_trans h2 hlen⟩
    · rcases hk with ⟨k1, k2, k3, _⟩ | ⟨k1, k2, k3, k4⟩
      · exact .inl ⟨k2, k3, k1⟩
      · exact .inr ⟨k4, Nat.le_of_eq k3⟩
  · intro e he
    rcases hmem e he with he | rfl
    · exact h.place e he
    · exact hp
  · intro e he hke
    rw [heq]
    rcases hmem e he with he | rfl
    · have := h.number e he hke; omega
    · show d.number + sameSort d p1.decls < _
      have hkd : d.kind ≠ 0 := hke
      rw [sameSort_eqs d _ hkd, hds, h0, if_neg hkd]; omega
  · intro i hi
    have hi' : i < p1.nodes.length := hi
    have hin : ∀ e, e ∈ p.decls → e ∈ (p1.declare d).decls := by intro e he; unfold PS.declare; simp [hds, he]
    rcases hk with ⟨_, _, _, k4⟩ | ⟨k1, k2, k3, k4⟩
    · rw [k4] at hi'
      obtain ⟨e, he, h1, h2⟩ := h.cover i hi'
      exact ⟨e, hin e he, h1, h2⟩
    · by_cases hc : i < p.nodes.length
      · obtain ⟨e, he, h1, h2⟩ := h.cover i hc
        exact ⟨e, hin e he, h1, h2⟩
      · exact ⟨{ d with number := d.number + sameSort d p1.decls }, by unfold PS.declare; simp, by show d.root ≤ i; omega, by show i < d.fin; omega⟩

theorem declarationInv {ts : List Tk} {p p' : PS} (h : DInv p) (he : declarationF ts p = .ok p') : DInv p' := by
  have inp : inputF ts p = .ok p' → DInv p' := by
    intro he
    unfold inputF at he
    split at he
    · obtain ⟨rfl, _⟩ := take_grow he
      refine DInv.of ?_ (adv_decls ts _) (adv_nodes ts _)
      exact declareInv h ((Grow.adv ts p).trans (Grow.adv ts _)) rfl (by show (0:Nat) < 4; decide) (.inl ⟨rfl, rfl, rfl, by simp⟩)
    · cases he
  have eqn : ∀ kind, kind ≠ 0 → equationF ts kind p = .ok p' → DInv p' := by
    intro kind hk he
    unfold equationF at he
    split at he
    · split at he
      · cases he
      rename_i p1 e1
      obtain ⟨rfl, _⟩ := take_grow e1
      split at he
      · cases he
      rename_i pl p2 e2
      unfold placeF at e2
      split at e2
      · rename_i hpl
        cases e2
        split at he
        · cases he
        rename_i p3 e3
        obtain ⟨rfl, _⟩ := take_grow e3
        split at he
        · cases he
        rename_i r p4 e4
        obtain ⟨g, hr, hlt⟩ := exprN ts 16 _ _ _ e4
        obtain ⟨rfl, _⟩ := take_grow he
        have g0 : Grow p p4 := Grow.trans (Grow.of (by simp) (by simp)) g
        have hr' : r = p.nodes.length := by rw [hr]; simp
        refine DInv.of ?_ (adv_decls ts _) (adv_nodes ts _)
        exact declareInv h g0 rfl hpl.2 (.inr ⟨hk, hr', rfl, hlt⟩)
      · cases e2
    · cases he
  unfold declarationF at he
  split at he
  · exact inp he
  split at he
  · exact eqn 1 (by decide) he
  split at he
  · exact eqn 2 (by decide) he
  · cases he

theorem declsInv {ts : List Tk} : ∀ f p p', DInv p → declsF ts f p = .ok p' → DInv p' := by
  intro f
  induction f with
  | zero => intro p p' h he; cases he; exact h
  | succ f ih =>
    intro p p' h he
    unfold declsF at he
    split at he
    · cases he; exact h
    · split at he
      · cases he
      · rename_i q e1
        exact ih _ _ (declarationInv h e1) he

theorem declsWf {ts : List Tk} (ht : TsOk ts) : ∀ f p p', p.Wf ts → p.depth = 0 → declsF ts f p = .ok p' → p'.Wf ts := by
  intro f
  induction f with
  | zero => intro p p' h _ he; cases he; exact h
  | succ f ih =>
    intro p p' h h0 he
    unfold declsF at he
    split at he
    · cases he; exact h
    · split at he
      · cases he
      · rename_i q e1
        have s := declaration_step ht h h0 e1
        exact ih _ _ s.wf (s.depth.trans h0) he

theorem bindF_keep (l : List Dc) (n : Nd) : (bindF l n).kind = n.kind ∧ (bindF l n).a = n.a ∧ (bindF l n).b = n.b ∧ (bindF l n).c = n.c := by
  unfold bindF; split <;> exact ⟨rfl, rfl, rfl, rfl⟩

theorem findF_range (l : List Dc) (name : ByteArray) : -1 ≤ findF l name ∧ findF l name < (l.length : Int) := by
  unfold findF
  split
  · rename_i i h
    have := List.findIdx?_eq_some_iff_getElem.1 h
    obtain ⟨h1, _⟩ := this
    omega
  · omega

theorem badName_none {all : List Dc} {ns : List Nd} : ∀ l i, badNameF all ns i l = none → ∀ d ∈ l, badNodeF (seg ns d.root d.fin) = none := by
  intro l
  induction l with
  | nil => intro i _ d hd; simp at hd
  | cons e l ih =>
    intro i h d hd
    unfold badNameF at h
    split at h
    · cases h
    · split at h
      · cases h
      · rename_i hb
        rcases List.mem_cons.1 hd with rfl | hd
        · exact hb
        · exact ih _ h d hd

theorem badNode_none : ∀ l : List Nd, badNodeF l = none → ∀ n ∈ l, n.kind = 2 → 0 ≤ n.decl := by
  intro l
  induction l with
  | nil => intro _ n hn; simp at hn
  | cons m l ih =>
    intro h n hn hk
    unfold badNodeF at h
    split at h
    · cases h
    · rename_i hm
      rcases List.mem_cons.1 hn with rfl | hn
      · exact Int.not_lt.1 (fun hlt => hm ⟨hk, hlt⟩)
      · exact ih h n hn hk

theorem links_src {ds : List Dc} {ns : List Nd} (P : Nat → Prop) : ∀ l i, (∀ d ∈ l, d.kind ≠ 0 → P d.number) → ∀ r ∈ linksFrom ds ns i l, P r.src ∧ r.dst < 4 := by
  have hto : ∀ i d q, ∀ r ∈ linksTo ds ns i d q, r.src = d.number ∧ r.dst < q := by
    intro i d q
    induction q with
    | zero => intro r hr; simp [linksTo] at hr
    | succ q ih =>
      intro r hr
      simp only [linksTo, List.mem_append] at hr
      rcases hr with hr | hr
      · have := ih r hr; exact ⟨this.1, by omega⟩
      · unfold linkAt at hr
        split at hr
        · simp at hr; subst hr; exact ⟨rfl, Nat.lt_succ_self _⟩
        · simp at hr
  intro l
  induction l with
  | nil => intro i _ r hr; simp [linksFrom] at hr
  | cons d l ih =>
    intro i h r hr
    simp only [linksFrom, List.mem_append] at hr
    rcases hr with hr | hr
    · split at hr
      · simp at hr
      · rename_i hk
        obtain ⟨h1, h2⟩ := hto i d 4 r hr
        exact ⟨by rw [h1]; exact h d (List.mem_cons_self ..) hk, h2⟩
    · exact ih (i + 1) (fun e he => h e (List.mem_cons_of_mem _ he)) r hr

theorem links_len {ds : List Dc} {ns : List Nd} : ∀ l i, (linksFrom ds ns i l).length ≤ 4 * l.length := by
  intro l
  induction l with
  | nil => intro i; simp [linksFrom]
  | cons d l ih =>
    intro i
    simp only [linksFrom, List.length_append, List.length_cons]
    have := ih (i + 1)
    have := linksTo_len ds ns i d 4
    split
    · simp; omega
    · omega

theorem good_parse (s : ByteArray) (hs : s.size ≤ 1500) (p : PS) (h : parseF s = .ok p) : Good p.decls (boundN p) := by
  have ht := toks_ok s hs
  have hi := declsInv _ _ _ DInv.start h
  have hw := declsWf ht _ _ _ (pZero_wf ht) rfl h
  have hl := ht.1
  have hn := hw.next
  have hnn := hw.nodes
  have hnd := hw.decls
  have hbl : (boundN p).length = p.nodes.length := by simp [boundN]
  have hget : ∀ i (hi' : i < (boundN p).length), ∃ m, p.nodes[i]? = some m ∧ (boundN p)[i]'hi' = bindF p.decls m := by
    intro i hi'
    have : i < p.nodes.length := by rw [← hbl]; exact hi'
    exact ⟨p.nodes[i]'this, by simp [this], by simp [boundN]⟩
  have hmem : ∀ n ∈ boundN p, ∃ (i : Nat) (m : Nd), p.nodes[i]? = some m ∧ n = bindF p.decls m := by
    intro n hn
    obtain ⟨i, hi', rfl⟩ := List.getElem_of_mem hn
    obtain ⟨m, h1, h2⟩ := hget i hi'
    exact ⟨i, m, h1, h2⟩
  refine ⟨⟨by omega, by omega, ?_, ?_, ?_, ?_, hi.place, ?_⟩, ?_, ?_, ?_⟩
  · rw [hbl]; exact hi.segs
  · intro n hn
    obtain ⟨i, m, h1, rfl⟩ := hmem n hn
    obtain ⟨_, e2, e3, e4⟩ := bindF_keep p.decls m
    have := hi.nodes i m h1
    rw [hbl, e2, e3, e4]
    exact ⟨this.a, this.b, this.c⟩
  · intro n hn hk
    obtain ⟨i, m, h1, rfl⟩ := hmem n hn
    have hk' : m.kind = 2 := by rw [← (bindF_keep p.decls m).1]; exact hk
    unfold bindF
    rw [if_pos hk']
    exact findF_range _ _
  · intro n hn
    obtain ⟨i, m, h1, rfl⟩ := hmem n hn
    rw [(bindF_keep p.decls m).1]
    exact (hi.nodes i m h1).kind
  · intro i hi'
    obtain ⟨m, h1, h2⟩ := hget i hi'
    obtain ⟨e1, e2, e3, e4⟩ := bindF_keep p.decls m
    rw [h2, e1, e2, e3, e4]
    have := hi.nodes i m h1
    exact ⟨this.k3, this.k4, this.k5⟩
  · intro hb n hn hk
    obtain ⟨i, hi', rfl⟩ := List.getElem_of_mem hn
    obtain ⟨d, hd, h1, h2⟩ := hi.cover i (by rw [← hbl]; exact hi')
    refine badNode_none _ (badName_none _ _ hb d hd) _ ?_ hk
    unfold seg
    refine List.mem_iff_getElem.2 ⟨i - d.root, ?_, ?_⟩
    · simp; omega
    · simp [Nat.add_sub_cancel' h1]
  · intro r hr
    exact links_src (fun k => k < (eqsF p.decls).length) _ _ (fun d hd hk => hi.number d hd hk) r hr
  · have := links_len (ds := p.decls) (ns := boundN p) p.decls 0
    show (linksFrom p.decls (boundN p) 0 p.decls).length ≤ 6100
    omega

end Go.Proofs.Ytmndgoapkmhglab

/- Plain mathematics: the tokens as the document's own reader has them. -/
namespace Go.Proofs.Ytmndgoapkmhglab

structure RTk where
  c : Nat
  word : ByteArray
  pos : Nat
  n : Nat

def rtok (t : Tk) : RTk :=
  ⟨if t.kind = 0 then 101 else if t.kind = 1 then 97 else if t.kind = 2 then 107 else if t.kind = 3 then 110 else if t.kind = 4 then 115 else 120,
   if t.kind = 1 ∨ t.kind = 2 ∨ t.kind = 4 then t.text else ⟨#[]⟩, t.pos, if t.kind = 3 then valOf t.text.data.toList else 0⟩

def rtoks (s : ByteArray) : List RTk := (toks s).map rtok

end Go.Proofs.Ytmndgoapkmhglab

/- Plain mathematics: how the document's own reader holds tokens against the grammar. -/
namespace Go.Proofs.Ytmndgoapkmhglab

def RTk.l (t : RTk) : List UInt8 := t.word.data.toList
def rlit (t : RTk) : Bool := t.c == 110 || t.l == kTrue || t.l == kFalse
def rop (l : List UInt8) : Bool := (opOf l).isSome

def insF (t : RTk) : List UInt8 × Bool × Bool :=
  if t.l = kNot then ([69], true, true)
  else if t.l = kIf then ([69, 69, 69], true, true)
  else if rlit t = true then ([76], true, true)
  else if t.c = 97 then ([79], true, true)
  else ([69, 79], false, t.l == [40])

def ruleF (x : Nat) (t : RTk) (depth : Int) : List UInt8 × Bool × Bool :=
  if x = 80 then (if t.l = kIn then ([97, 59, 80], true, true) else ([97, 84, 81, 61, 69, 59, 80], true, t.l == kInt || t.l == kBool))
  else if x = 97 then ([], true, t.c == 97)
  else if x = 84 then ([], true, t.l == kAt)
  else if x = 81 then ([], true, t.c == 110 && decide (t.n < 4))
  else if x = 69 then (if t.l = [40] then ([73, 41], true, decide (depth < 16)) else ([], true, rlit t || t.c == 97))
  else if x = 73 then insF t
  else if x = 76 then ([69], true, rop t.l || t.l == kFby)
  else if x = 79 then ([69], true, rop t.l)
  else ([], true, t.c == 115 && ((t.l.getD 0 0).toNat == x))

end Go.Proofs.Ytmndgoapkmhglab

/- Plain mathematics: texts whose tokens are alike are judged alike. -/
namespace Go.Proofs.Ytmndgoapkmhglab

def All2 {α β : Type} (R : α → β → Prop) : List α → List β → Prop
  | [], [] => True
  | a :: l, b :: m => R a b ∧ All2 R l m
  | _, _ => False

theorem All2.len {α β : Type} {R : α → β → Prop} : ∀ {l : List α} {m : List β}, All2 R l m → m.length = l.length := by
  intro l
  induction l with
  | nil => intro m h; cases m with
    | nil => rfl
    | cons b m => exact h.elim
  | cons a l ih => intro m h; cases m with
    | nil => exact h.elim
    | cons b m => simp [ih h.2]

theorem All2.app {α β : Type} {R : α → β → Prop} : ∀ {l : List α} {m : List β} {l' : List α} {m' : List β}, All2 R l m → All2 R l' m' → All2 R (l ++ l') (m ++ m') := by
  intro l
  induction l with
  | nil => intro m l' m' h h'; cases m with
    | nil => exact h'
    | cons b m => exact h.elim
  | cons a l ih => intro m l' m' h h'; cases m with
    | nil => exact h.elim
    | cons b m => exact ⟨h.1, ih h.2 h'⟩

theorem All2.set {α β : Type} {R : α → β → Prop} {a : α} {b : β} (hr : R a b) : ∀ {l : List α} {m : List β} (i : Nat), All2 R l m → All2 R (l.set i a) (m.set i b) := by
  intro l
  induction l with
  | nil => intro m i h; cases m with
    | nil => simpa using h
    | cons b m => exact h.elim
  | cons c l ih => intro m i h; cases m with
    | nil => exact h.elim
    | cons d m => cases i with
      | zero => exact ⟨hr, h.2⟩
      | succ i => exact ⟨h.1, ih i h.2⟩

theorem All2.getD {α β : Type} {R : α → β → Prop} {a : α} {b : β} (hr : R a b) : ∀ {l : List α} {m : List β} (i : Nat), All2 R l m → R (l.getD i a) (m.getD i b) := by
  intro l
  induction l with
  | nil => intro m i h; cases m with
    | nil => simpa using hr
    | cons b m => exact h.elim
  | cons c l ih => intro m i h; cases m with
    | nil => exact h.elim
    | cons d m => cases i with
      | zero => exact h.1
      | succ i => simpa using ih i h.2

theorem All2.take {α β : Type} {R : α → β → Prop} : ∀ {l : List α} {m : List β} (i : Nat), All2 R l m → All2 R (l.take i) (m.take i) := by
  intro l
  induction l with
  | nil => intro m i h; cases m with
    | nil => simpa using h
    | cons b m => exact h.elim
  | cons c l ih => intro m i h; cases m with
    | nil => exact h.elim
    | cons d m => cases i with
      | zero => exact trivial
      | succ i => exact ⟨h.1, ih i h.2⟩

theorem All2.drop {α β : Type} {R : α → β → Prop} : ∀ {l : List α} {m : List β} (i : Nat), All2 R l m → All2 R (l.drop i) (m.drop i) := by
  intro l
  induction l with
  | nil => intro m i h; cases m with
    | nil => simpa using h
    | cons b m => exact h.elim
  | cons c l ih => intro m i h; cases m with
    | nil => exact h.elim
    | cons d m => cases i with
      | zero => exact h
      | succ i => exact ih i h.2

theorem All2.filter {α β : Type} {R : α → β → Prop} {f : α → Bool} {g : β → Bool} (hfg : ∀ a b, R a b → g b = f a) : ∀ {l : List α} {m : List β}, All2 R l m → All2 R (l.filter f) (m.filter g) := by
  intro l
  induction l with
  | nil => intro m h; cases m with
    | nil => exact h
    | cons b m => exact h.elim
  | cons c l ih => intro m h; cases m with
    | nil => exact h.elim
    | cons d m =>
      rw [List.filter_cons, List.filter_cons, hfg c d h.1]
      split
      · exact ⟨h.1, ih h.2⟩
      · exact ih h.2

theorem All2.map {α β γ δ : Type} {R : α → β → Prop} {S : γ → δ → Prop} {f : α → γ} {g : β → δ} (hfg : ∀ a b, R a b → S (f a) (g b)) : ∀ {l : List α} {m : List β}, All2 R l m → All2 S (l.map f) (m.map g) := by
  intro l
  induction l with
  | nil => intro m h; cases m with
    | nil => exact h
    | cons b m => exact h.elim
  | cons c l ih => intro m h; cases m with
    | nil => exact h.elim
    | cons d m => exact ⟨hfg c d h.1, ih h.2⟩

/-- alike: all but the place in the text. -/
structure TR (P : Nat → Nat → Prop) (t t' : Tk) : Prop where
  kind : t'.kind = t.kind
  pos : P t.pos t'.pos
  val : t.kind = 3 → valOf t'.l = valOf t.l
  dig : t.kind = 3 → (∀ c ∈ t.l, 48 ≤ c.toNat ∧ c.toNat ≤ 57) ∧ (∀ c ∈ t'.l, 48 ≤ c.toNat ∧ c.toNat ≤ 57)
  text : t.kind ≠ 3 → t'.text = t.text

def NR (P : Nat → Nat → Prop) (n n' : Nd) : Prop := n' = { n with pos := n'.pos } ∧ P n.pos n'.pos
def DR (P : Nat → Nat → Prop) (d d' : Dc) : Prop := d' = { d with pos := d'.pos } ∧ P d.pos d'.pos

/-- a word that is no number. -/
def wordL (l : List UInt8) : Bool := l.any fun c => decide (c.toNat < 48) || decide (57 < c.toNat)

theorem TR.same {P : Nat → Nat → Prop} {t t' : Tk} (h : TR P t t') {l : List UInt8} (hl : wordL l = true) : (t'.l = l) = (t.l = l) := by
  by_cases hk : t.kind = 3
  · obtain ⟨h1, h2⟩ := h.dig hk
    have no : ∀ m : List UInt8, (∀ c ∈ m, 48 ≤ c.toNat ∧ c.toNat ≤ 57) → m ≠ l := by
      intro m hm e
      subst e
      unfold wordL at hl
      rw [List.any_eq_true] at hl
      obtain ⟨c, hc, hd⟩ := hl
      have := hm c hc
      simp at hd
      omega
    exact propext ⟨fun e => absurd e (no _ h2), fun e => absurd e (no _ h1)⟩
  · unfold Tk.l
    rw [h.text hk]

theorem TR.op {P : Nat → Nat → Prop} {t t' : Tk} (h : TR P t t') : opOf t'.l = opOf t.l := by
  unfold opOf
  simp only [h.same (l := [43]) (by decide), h.same (l := [45]) (by decide), h.same (l := [42]) (by decide), h.same (l := [47]) (by decide), h.same (l := [60]) (by decide), h.same (l := [61]) (by decide), h.same (l := [38]) (by decide), h.same (l := [124]) (by decide)]

structure TsR (P : Nat → Nat → Prop) (ts ts' : List Tk) : Prop where
  len : ts'.length = ts.length
  at' : ∀ i, TR P (tkAt ts i) (tkAt ts' i)

structure SR (P : Nat → Nat → Prop) (p p' : PS) : Prop where
  next : p'.next = p.next
  depth : p'.depth = p.depth
  delays : p'.delays = p.delays
  decls : All2 (DR P) p.decls p'.decls
  nodes : All2 (NR P) p.nodes p'.nodes

def RR {α β : Type} (R : α → β → Prop) : Except Nat α → Except Nat β → Prop
  | .ok a, .ok b => R a b
  | .error j, .error k => k = j
  | _, _ => False

theorem RR.two {α β : Type} {R : α → β → Prop} {x : Except Nat α} {y : Except Nat β} (h : RR R x y) : (∃ e, x = .error e ∧ y = .error e) ∨ (∃ a b, x = .ok a ∧ y = .ok b ∧ R a b) := by
  cases x with
  | error e => cases y with
    | error f => exact .inl ⟨e, rfl, by rw [show f = e from h]⟩
    | ok b => exact h.elim
  | ok a => cases y with
    | error f => exact h.elim
    | ok b => exact .inr ⟨a, b, rfl, rfl, h⟩

theorem SR.hd {P : Nat → Nat → Prop} {ts ts' : List Tk} {p p' : PS} (ht : TsR P ts ts') (h : SR P p p') : TR P (p.hd ts) (p'.hd ts') := by
  unfold PS.hd; rw [h.next]; exact ht.at' _
theorem SR.adv {P : Nat → Nat → Prop} {ts ts' : List Tk} {p p' : PS} (ht : TsR P ts ts') (h : SR P p p') : SR P (p.adv ts) (p'.adv ts') := by
  unfold PS.adv
  rw [h.next, ht.len]
  split
  · exact ⟨by simp, h.depth, h.delays, h.decls, h.nodes⟩
  · exact h
theorem SR.take {P : Nat → Nat → Prop} {ts ts' : List Tk} {p p' : PS} (ht : TsR P ts ts') (h : SR P p p') {l : List UInt8} (hl : wordL l = true) : RR (SR P) (p.take ts l) (p'.take ts' l) := by
  unfold PS.take
  simp only [(h.hd ht).same hl]
  split
  · exact h.adv ht
  · exact h.next

def ERes (P : Nat → Nat → Prop) (x y : Nat × PS) : Prop := y.1 = x.1 ∧ SR P x.2 y.2
def NRes (P : Nat → Nat → Prop) (x y : Nd × PS) : Prop := NR P x.1 y.1 ∧ SR P x.2 y.2
def ExR (P : Nat → Nat → Prop) (ex ex' : Ex) : Prop := ∀ p p', SR P p p' → RR (ERes P) (ex p) (ex' p')

theorem SR.add {P : Nat → Nat → Prop} {ts ts' : List Tk} {p p' : PS} (ht : TsR P ts ts') (h : SR P p p') (n : Nd) : SR P (p.add ts n) (p'.add ts' n) := by
  refine ⟨h.next, h.depth, h.delays, h.decls, h.nodes.app ⟨⟨?_, (h.hd ht).pos⟩, trivial⟩⟩
  have hb : ((tkAt ts' (p'.next - 1)).l == kFby) = ((tkAt ts (p.next - 1)).l == kFby) := by
    rw [h.next]
    have := (ht.at' (p.next - 1)).same (l := kFby) (by decide)
    rw [Bool.eq_iff_iff]
    simp [this]
  rw [hb, h.next, h.delays]

theorem insideR {P : Nat → Nat → Prop} {ts ts' : List Tk} (ht : TsR P ts ts') {ex ex' : Ex} (hx : ExR P ex ex') {p p' : PS} {n n' : Nd} (h : SR P p p') (hn : NR P n n') : RR (NRes P) (insideF ts ex p n) (insideF ts' ex' p' n') := by
  have hh := h.hd ht
  have hlit : ∀ (q q' : PS) (a : Nat), SR P q q' → (P 0 0 → True) → isLit (q'.nodes.getD a ndZero) = isLit (q.nodes.getD a ndZero) := by
    intro q q' a hq _
    have hkind := All2.getD (R := fun n n' : Nd => n'.kind = n.kind) (a := ndZero) (b := ndZero) rfl a (by
      have := All2.map (f := id) (g := id) (S := fun n n' : Nd => n'.kind = n.kind) (fun a b hab => by
        have e := hab.1
        show b.kind = a.kind
        rw [e]) hq.nodes
      simpa using this)
    unfold isLit
    rw [hkind]
  unfold insideF
  simp only [hh.same (l := kNot) (by decide), hh.same (l := kIf) (by decide)]
  split
  · unfold notF
    rcases (hx _ _ (h.adv ht)).two with ⟨e, h1, h2⟩ | ⟨⟨a, p1⟩, ⟨a', p1'⟩, h1, h2, rfl, s1⟩
    · rw [h1, h2]; rfl
    · rw [h1, h2]
      refine ⟨⟨?_, hn.2⟩, s1⟩
      show ({ n' with kind := 3, a := a' } : Nd) = _
      rw [hn.1]
  split
  · unfold choiceF
    rcases (hx _ _ (h.adv ht)).two with ⟨e, h1, h2⟩ | ⟨⟨a, p1⟩, ⟨a', p1'⟩, h1, h2, ra, s1⟩
    · rw [h1, h2]; rfl
    · rw [h1, h2]
      simp only
      rcases (hx _ _ s1).two with ⟨e, h1, h2⟩ | ⟨⟨b, p2⟩, ⟨b', p2'⟩, h1, h2, rb, s2⟩
      · rw [h1, h2]; rfl
      · rw [h1, h2]
        simp only
        rcases (hx _ _ s2).two with ⟨e, h1, h2⟩ | ⟨⟨c, p3⟩, ⟨c', p3'⟩, h1, h2, rc, s3⟩
        · rw [h1, h2]; rfl
        · rw [h1, h2]
          cases ra; cases rb; cases rc
          refine ⟨⟨?_, hn.2⟩, s3⟩
          show ({ n' with kind := 4, a := a, b := b, c := c } : Nd) = _
          rw [hn.1]
  · unfold infixF
    rcases (hx _ _ h).two with ⟨e, h1, h2⟩ | ⟨⟨a, p1⟩, ⟨a', p1'⟩, h1, h2, ra, s1⟩
    · rw [h1, h2]; rfl
    · rw [h1, h2]
      cases ra
      simp only
      replace s1 : SR P p1 p1' := s1
      have hh1 := s1.hd ht
      rw [hlit p1 p1' a s1 (fun _ => trivial)]
      simp only [hh1.same (l := kFby) (by decide)]
      split
      · unfold delayF
        have s2 := s1.adv ht
        have s3 : SR P { p1.adv ts with delays := (p1.adv ts).delays + 1 } { p1'.adv ts' with delays := (p1'.adv ts').delays + 1 } := ⟨s2.next, s2.depth, by show (p1'.adv ts').delays + 1 = _; rw [s2.delays], s2.decls, s2.nodes⟩
        rcases (hx _ _ s3).two with ⟨e, h1, h2⟩ | ⟨⟨b, p2⟩, ⟨b', p2'⟩, h1, h2, rb, s4⟩
        · rw [h1, h2]; rfl
        · rw [h1, h2]
          cases rb
          refine ⟨⟨?_, hn.2⟩, ⟨s4.next, s4.depth, by show p2'.delays - 1 = p2.delays - 1; rw [s4.delays], s4.decls, s4.nodes⟩⟩
          show ({ n' with kind := 5, a := a, b := b } : Nd) = _
          rw [hn.1]
      · unfold infixRest
        rw [hh1.op]
        cases ho : opOf (p1.hd ts).l with
        | none => exact s1.next
        | some op =>
          simp only
          rcases (hx _ _ (s1.adv ht)).two with ⟨e, h1, h2⟩ | ⟨⟨b, p2⟩, ⟨b', p2'⟩, h1, h2, rb, s4⟩
          · rw [h1, h2]; rfl
          · rw [h1, h2]
            cases rb
            refine ⟨⟨?_, hn.2⟩, s4⟩
            show ({ n' with kind := 6, op := op, a := a, b := b } : Nd) = _
            rw [hn.1]

theorem bracketR {P : Nat → Nat → Prop} (h00 : P 0 0) {ts ts' : List Tk} (ht : TsR P ts ts') {ex ex' : Ex} (hx : ExR P ex ex') {p p' : PS} (h : SR P p p') : RR (ERes P) (bracketF ts ex p) (bracketF ts' ex' p') := by
  unfold bracketF
  have hl := h.nodes.len
  have s1 := (h.add ht ndZero)
  have s2 := s1.adv ht
  have s3 : SR P { (p.add ts ndZero).adv ts with depth := p.depth + 1 } { (p'.add ts' ndZero).adv ts' with depth := p'.depth + 1 } := ⟨s2.next, by show p'.depth + 1 = _; rw [h.depth], s2.delays, s2.decls, s2.nodes⟩
  rw [hl]
  have hn : NR P ((p.add ts ndZero).nodes.getD p.nodes.length ndZero) ((p'.add ts' ndZero).nodes.getD p.nodes.length ndZero) := All2.getD (R := NR P) ⟨rfl, h00⟩ _ s1.nodes
  rcases (insideR ht hx s3 hn).two with ⟨e, h1, h2⟩ | ⟨⟨m, p2⟩, ⟨m', p2'⟩, h1, h2, hm, s4⟩
  · rw [h1, h2]; rfl
  · rw [h1, h2]
    simp only
    have s5 : SR P { p2 with depth := p2.depth - 1, nodes := p2.nodes.set p.nodes.length m } { p2' with depth := p2'.depth - 1, nodes := p2'.nodes.set p.nodes.length m' } := ⟨s4.next, by show p2'.depth - 1 = p2.depth - 1; rw [s4.depth], s4.delays, s4.decls, s4.nodes.set hm _⟩
    rcases (s5.take ht (l := [41]) (by decide)).two with ⟨e, h1, h2⟩ | ⟨p3, p3', h1, h2, s6⟩
    · rw [h1, h2]; rfl
    · rw [h1, h2]; exact ⟨rfl, s6⟩

theorem exprR {P : Nat → Nat → Prop} (h00 : P 0 0) {ts ts' : List Tk} (ht : TsR P ts ts') : ∀ f, ExR P (exprF ts f) (exprF ts' f) := by
  have hleaf : ∀ (p p' : PS) (n : Nd), SR P p p' → ERes P (leafF ts p n) (leafF ts' p' n) := by
    intro p p' n h
    exact ⟨h.nodes.len, (h.add ht n).adv ht⟩
  have hatom : ∀ p p' (br br' : Except Nat (Nat × PS)), SR P p p' → RR (ERes P) br br' → RR (ERes P) (atomF ts p br) (atomF ts' p' br') := by
    intro p p' br br' h hb
    have hh := h.hd ht
    unfold atomF
    simp only [hh.same (l := [40]) (by decide), hh.same (l := kTrue) (by decide), hh.same (l := kFalse) (by decide), hh.kind]
    split
    · exact hb
    split
    · exact hleaf _ _ _ h
    split
    · exact hleaf _ _ _ h
    split
    · rename_i hk
      rw [hh.val hk]
      exact hleaf _ _ _ h
    split
    · rename_i hk
      rw [hh.text (by rw [hk]; decide)]
      exact hleaf _ _ _ h
    · exact h.next
  intro f
  induction f with
  | zero => intro p p' h; exact hatom p p' _ _ h h.next
  | succ f ih => intro p p' h; exact hatom p p' _ _ h (bracketR h00 ht ih h)

theorem sameSort_alike {P : Nat → Nat → Prop} (d d' : Dc) (hk : d'.kind = d.kind) {l l' : List Dc} (h : All2 (DR P) l l') : sameSort d' l' = sameSort d l := by
  unfold sameSort
  rw [hk]
  exact (All2.filter (fun a b hab => by rw [hab.1]) h).len

theorem SR.declare {P : Nat → Nat → Prop} {p p' : PS} (h : SR P p p') (d d' : Dc) (hd : DR P d d') : SR P (p.declare d) (p'.declare d') := by
  refine ⟨h.next, h.depth, h.delays, h.decls.app ⟨⟨?_, hd.2⟩, trivial⟩, h.nodes⟩
  rw [sameSort_alike d d' (by rw [hd.1]) h.decls]
  show ({ d' with number := d'.number + sameSort d p.decls } : Dc) = _
  rw [hd.1]

theorem declarationR {P : Nat → Nat → Prop} (h00 : P 0 0) {ts ts' : List Tk} (ht : TsR P ts ts') {p p' : PS} (h : SR P p p') : RR (SR P) (declarationF ts p) (declarationF ts' p') := by
  have hh := h.hd ht
  have s1 := h.adv ht
  have hh1 := s1.hd ht
  have s2 := s1.adv ht
  unfold declarationF
  simp only [hh.same (l := kIn) (by decide), hh.same (l := kInt) (by decide), hh.same (l := kBool) (by decide)]
  have eqn : ∀ kind, RR (SR P) (equationF ts kind p) (equationF ts' kind p') := by
    intro kind
    unfold equationF
    simp only [hh1.kind]
    split
    · rename_i hk
      rw [hh1.text (by rw [hk]; decide)]
      rcases (s2.take ht (l := kAt) (by decide)).two with ⟨e, h1, h2⟩ | ⟨p3, p3', h1, h2, s3⟩
      · rw [h1, h2]; rfl
      · rw [h1, h2]
        simp only
        have hh3 := s3.hd ht
        have hpl : RR (ERes P) (placeF ts p3) (placeF ts' p3') := by
          unfold placeF
          by_cases hk3 : (p3.hd ts).kind = 3
          · rw [hh3.kind, hh3.val hk3]
            split
            · exact ⟨rfl, s3.adv ht⟩
            · exact s3.next
          · rw [if_neg (fun x => hk3 x.1), if_neg (fun x => hk3 (hh3.kind ▸ x.1))]
            exact s3.next
        rcases hpl.two with ⟨e, h1, h2⟩ | ⟨⟨pl, p4⟩, ⟨pl', p4'⟩, h1, h2, rp, s4⟩
        · rw [h1, h2]; rfl
        · rw [h1, h2]
          cases rp
          simp only
          rcases (s4.take ht (l := [61]) (by decide)).two with ⟨e, h1, h2⟩ | ⟨p5, p5', h1, h2, s5⟩
          · rw [h1, h2]; rfl
          · rw [h1, h2]
            simp only
            rcases (exprR h00 ht 16 _ _ s5).two with ⟨e, h1, h2⟩ | ⟨⟨r, p6⟩, ⟨r', p6'⟩, h1, h2, rr, s6⟩
            · rw [h1, h2]; rfl
            · rw [h1, h2]
              cases rr
              simp only
              refine (s6.declare _ _ ⟨?_, ?_⟩).take ht (by decide)
              · rw [s6.nodes.len]
              · exact hh1.pos
    · exact s1.next
  split
  · unfold inputF
    simp only [hh1.kind]
    split
    · rename_i hk
      rw [hh1.text (by rw [hk]; decide)]
      exact (s2.declare _ _ ⟨rfl, hh1.pos⟩).take ht (by decide)
    · exact s1.next
  split
  · exact eqn 1
  split
  · exact eqn 2
  · exact h.next

theorem declsR {P : Nat → Nat → Prop} (h00 : P 0 0) {ts ts' : List Tk} (ht : TsR P ts ts') : ∀ f p p', SR P p p' → RR (SR P) (declsF ts f p) (declsF ts' f p') := by
  intro f
  induction f with
  | zero => intro p p' h; exact h
  | succ f ih =>
    intro p p' h
    unfold declsF
    rw [(h.hd ht).kind]
    split
    · exact h
    · rcases (declarationR h00 ht h).two with ⟨e, h1, h2⟩ | ⟨p3, p3', h1, h2, s3⟩
      · rw [h1, h2]; rfl
      · rw [h1, h2]; exact ih _ _ s3

end Go.Proofs.Ytmndgoapkmhglab

/- Plain mathematics: what is alike is judged alike. -/
namespace Go.Proofs.Ytmndgoapkmhglab

def OR (P : Nat → Nat → Prop) : Option Nat → Option Nat → Prop
  | none, none => True
  | some a, some b => P a b
  | _, _ => False

theorem tooManyR {P : Nat → Nat → Prop} : ∀ {l l' : List Dc}, All2 (DR P) l l' → OR P (tooManyF l) (tooManyF l') := by
  intro l
  induction l with
  | nil => intro m h; cases m with
    | nil => exact trivial
    | cons b m => exact h.elim
  | cons a l ih => intro m h; cases m with
    | nil => exact h.elim
    | cons b m =>
      obtain ⟨⟨e, hp⟩, h2⟩ := h
      unfold tooManyF
      have e1 : most b = most a := by rw [e]; rfl
      have e2 : b.number = a.number := by rw [e]
      rw [e1, e2]
      split
      · exact hp
      · exact ih h2

theorem findR {P : Nat → Nat → Prop} {l l' : List Dc} (h : All2 (DR P) l l') (name : ByteArray) : findF l' name = findF l name := by
  have : ∀ {l l' : List Dc}, All2 (DR P) l l' → l'.findIdx? (fun d => d.name.data.toList == name.data.toList) = l.findIdx? (fun d => d.name.data.toList == name.data.toList) := by
    intro l
    induction l with
    | nil => intro m h; cases m with
      | nil => rfl
      | cons b m => exact h.elim
    | cons a l ih => intro m h; cases m with
      | nil => exact h.elim
      | cons b m =>
        obtain ⟨⟨e, hp⟩, h2⟩ := h
        have e1 : b.name = a.name := by rw [e]
        rw [List.findIdx?_cons, List.findIdx?_cons, e1, ih h2]
  unfold findF
  rw [this h]

theorem bindR {P : Nat → Nat → Prop} {l l' : List Dc} (h : All2 (DR P) l l') {ns ns' : List Nd} (hn : All2 (NR P) ns ns') : All2 (NR P) (ns.map (bindF l)) (ns'.map (bindF l')) := by
  refine All2.map ?_ hn
  intro a b hab
  obtain ⟨e, hp⟩ := hab
  unfold bindF
  have e1 : b.kind = a.kind := by rw [e]
  have e2 : b.name = a.name := by rw [e]
  rw [e1, e2, findR h]
  split
  · refine ⟨?_, hp⟩
    rw [e]
  · exact ⟨e, hp⟩

theorem segR {P : Nat → Nat → Prop} {ns ns' : List Nd} (hn : All2 (NR P) ns ns') (a b : Nat) : All2 (NR P) (seg ns a b) (seg ns' a b) := (hn.drop a).take (b - a)

theorem badNodeR {P : Nat → Nat → Prop} : ∀ {l l' : List Nd}, All2 (NR P) l l' → OR P (badNodeF l) (badNodeF l') := by
  intro l
  induction l with
  | nil => intro m h; cases m with
    | nil => exact trivial
    | cons b m => exact h.elim
  | cons a l ih => intro m h; cases m with
    | nil => exact h.elim
    | cons b m =>
      obtain ⟨⟨e, hp⟩, h2⟩ := h
      unfold badNodeF
      have e1 : b.kind = a.kind := by rw [e]
      have e2 : b.decl = a.decl := by rw [e]
      rw [e1, e2]
      split
      · exact hp
      · exact ih h2

theorem OR.two {P : Nat → Nat → Prop} {x y : Option Nat} (h : OR P x y) : (x = none ∧ y = none) ∨ ∃ a b, x = some a ∧ y = some b ∧ P a b := by
  cases x with
  | none => cases y with
    | none => exact .inl ⟨rfl, rfl⟩
    | some b => exact h.elim
  | some a => cases y with
    | none => exact h.elim
    | some b => exact .inr ⟨a, b, rfl, rfl, h⟩

theorem badNameR {P : Nat → Nat → Prop} {all all' : List Dc} (ha : All2 (DR P) all all') {ns ns' : List Nd} (hn : All2 (NR P) ns ns') : ∀ {l l' : List Dc} (i : Nat), All2 (DR P) l l' → OR P (badNameF all ns i l) (badNameF all' ns' i l') := by
  intro l
  induction l with
  | nil => intro m i h; cases m with
    | nil => exact trivial
    | cons b m => exact h.elim
  | cons a l ih => intro m i h; cases m with
    | nil => exact h.elim
    | cons b m =>
      obtain ⟨⟨e, hp⟩, h2⟩ := h
      unfold badNameF
      have e1 : b.name = a.name := by rw [e]
      have e2 : b.root = a.root := by rw [e]
      have e3 : b.fin = a.fin := by rw [e]
      rw [e1, e2, e3, findR ha]
      split
      · exact hp
      · rcases (badNodeR (segR hn a.root a.fin)).two with ⟨h1, h3⟩ | ⟨x, y, h1, h3, h4⟩
        · rw [h1, h3]; exact ih (i + 1) h2
        · rw [h1, h3]; exact h4

theorem kindAtR {P : Nat → Nat → Prop} {ds ds' : List Dc} (h : All2 (DR P) ds ds') (i : Int) : kindAt ds' i = kindAt ds i := by
  unfold kindAt
  exact All2.getD (R := fun d d' : Dc => d'.kind = d.kind) rfl _ (by
    have := All2.map (f := id) (g := id) (S := fun d d' : Dc => d'.kind = d.kind) (fun a b hab => by
      have e := hab.1
      show b.kind = a.kind
      rw [e]) h
    simpa using this)

theorem badTypeR {P : Nat → Nat → Prop} {ds ds' : List Dc} (hd : All2 (DR P) ds ds') : ∀ {l l' : List Nd} (i : Nat) (tr : List Bool), All2 (NR P) l l' → OR P (badTypeF ds i l tr) (badTypeF ds' i l' tr) := by
  intro l
  induction l with
  | nil => intro m i tr h; cases m with
    | nil => exact trivial
    | cons b m => exact h.elim
  | cons a l ih => intro m i tr h; cases m with
    | nil => exact h.elim
    | cons b m =>
      obtain ⟨⟨e, hp⟩, h2⟩ := h
      unfold badTypeF
      have e1 : fitsF ds' b (tr.getD i false) = fitsF ds a (tr.getD i false) := by
        rw [e]; unfold fitsF; simp only [kindAtR hd]
      have e2 : tell b (tr.getD i false) tr = tell a (tr.getD i false) tr := by rw [e]; rfl
      rw [e1, e2]
      split
      · exact ih (i + 1) _ h2
      · exact hp

theorem rootsR {P : Nat → Nat → Prop} : ∀ {l l' : List Dc} (tr : List Bool), All2 (DR P) l l' → roots l' tr = roots l tr := by
  intro l
  induction l with
  | nil => intro m tr h; cases m with
    | nil => rfl
    | cons b m => exact h.elim
  | cons a l ih => intro m tr h; cases m with
    | nil => exact h.elim
    | cons b m =>
      obtain ⟨⟨e, hp⟩, h2⟩ := h
      unfold roots
      have e1 : b.kind = a.kind := by rw [e]
      have e2 : b.root = a.root := by rw [e]
      rw [e1, e2, ih _ h2]

theorem markSegR {P : Nat → Nat → Prop} {ds ds' : List Dc} (hd : All2 (DR P) ds ds') (i : Nat) : ∀ {l l' : List Nd} (M : Mx), All2 (NR P) l l' → markSeg ds' i l' M = markSeg ds i l M := by
  intro l
  induction l with
  | nil => intro m M h; cases m with
    | nil => rfl
    | cons b m => exact h.elim
  | cons a l ih => intro m M h; cases m with
    | nil => exact h.elim
    | cons b m =>
      obtain ⟨⟨e, hp⟩, h2⟩ := h
      unfold markSeg
      have e1 : b.kind = a.kind := by rw [e]
      have e2 : b.delayed = a.delayed := by rw [e]
      have e3 : b.decl = a.decl := by rw [e]
      rw [e1, e2, e3, kindAtR hd, ih _ h2]

theorem markAllR {P : Nat → Nat → Prop} {ds ds' : List Dc} (hd : All2 (DR P) ds ds') {ns ns' : List Nd} (hn : All2 (NR P) ns ns') : ∀ {l l' : List Dc} (i : Nat) (M : Mx), All2 (DR P) l l' → markAll ds' ns' i l' M = markAll ds ns i l M := by
  intro l
  induction l with
  | nil => intro m i M h; cases m with
    | nil => rfl
    | cons b m => exact h.elim
  | cons a l ih => intro m i M h; cases m with
    | nil => exact h.elim
    | cons b m =>
      obtain ⟨⟨e, hp⟩, h2⟩ := h
      unfold markAll
      have e1 : b.root = a.root := by rw [e]
      have e2 : b.fin = a.fin := by rw [e]
      rw [e1, e2, markSegR hd i M (segR hn _ _), ih _ _ h2]

theorem firstSelfR {P : Nat → Nat → Prop} (M : Mx) : ∀ {l l' : List Dc} (i : Nat), All2 (DR P) l l' → OR P (firstSelf M i l) (firstSelf M i l') := by
  intro l
  induction l with
  | nil => intro m i h; cases m with
    | nil => exact trivial
    | cons b m => exact h.elim
  | cons a l ih => intro m i h; cases m with
    | nil => exact h.elim
    | cons b m =>
      obtain ⟨⟨e, hp⟩, h2⟩ := h
      unfold firstSelf
      split
      · exact hp
      · exact ih (i + 1) h2

theorem cycleR {P : Nat → Nat → Prop} {ds ds' : List Dc} (hd : All2 (DR P) ds ds') {ns ns' : List Nd} (hn : All2 (NR P) ns ns') : OR P (cycleF ds ns) (cycleF ds' ns') := by
  unfold cycleF
  rw [markAllR hd hn _ _ hd, hd.len]
  exact firstSelfR _ _ hd

theorem usesSegR {P : Nat → Nat → Prop} (decl : Nat) : ∀ {l l' : List Nd} (u p : Bool), All2 (NR P) l l' → usesSeg decl l' u p = usesSeg decl l u p := by
  intro l
  induction l with
  | nil => intro m u p h; cases m with
    | nil => rfl
    | cons b m => exact h.elim
  | cons a l ih => intro m u p h; cases m with
    | nil => exact h.elim
    | cons b m =>
      obtain ⟨⟨e, hp⟩, h2⟩ := h
      unfold usesSeg
      have e1 : b.kind = a.kind := by rw [e]
      have e2 : b.decl = a.decl := by rw [e]
      have e3 : b.behind = a.behind := by rw [e]
      rw [e1, e2, e3, ih _ _ h2, ih _ _ h2]

theorem usesAllR {P : Nat → Nat → Prop} {ns ns' : List Nd} (hn : All2 (NR P) ns ns') (decl place : Nat) : ∀ {l l' : List Dc} (u p : Bool), All2 (DR P) l l' → usesAll ns' decl place l' u p = usesAll ns decl place l u p := by
  intro l
  induction l with
  | nil => intro m u p h; cases m with
    | nil => rfl
    | cons b m => exact h.elim
  | cons a l ih => intro m u p h; cases m with
    | nil => exact h.elim
    | cons b m =>
      obtain ⟨⟨e, hp⟩, h2⟩ := h
      unfold usesAll
      have e1 : b.kind = a.kind := by rw [e]
      have e2 : b.place = a.place := by rw [e]
      have e3 : b.root = a.root := by rw [e]
      have e4 : b.fin = a.fin := by rw [e]
      rw [e1, e2, e3, e4, usesSegR decl _ _ (segR hn _ _), ih _ _ h2, ih _ _ h2]

theorem linksR {P : Nat → Nat → Prop} {ds ds' : List Dc} (hd : All2 (DR P) ds ds') {ns ns' : List Nd} (hn : All2 (NR P) ns ns') : linksF ds' ns' = linksF ds ns := by
  have hu : ∀ i q, usesF ds' ns' i q = usesF ds ns i q := fun i q => usesAllR hn i q _ _ hd
  have hto : ∀ i (d d' : Dc), DR P d d' → ∀ q, linksTo ds' ns' i d' q = linksTo ds ns i d q := by
    intro i d d' hdd q
    induction q with
    | zero => rfl
    | succ q ih =>
      unfold linksTo linkAt
      have e1 : d'.place = d.place := by rw [hdd.1]
      have e2 : d'.number = d.number := by rw [hdd.1]
      rw [ih, hu, e1, e2]
  have hfrom : ∀ {l l' : List Dc} (i : Nat), All2 (DR P) l l' → linksFrom ds' ns' i l' = linksFrom ds ns i l := by
    intro l
    induction l with
    | nil => intro m i h; cases m with
      | nil => rfl
      | cons b m => exact h.elim
    | cons a l ih => intro m i h; cases m with
      | nil => exact h.elim
      | cons b m =>
        unfold linksFrom
        have e1 : b.kind = a.kind := by rw [h.1.1]
        rw [e1, hto i a b h.1 4, ih (i + 1) h.2]
  exact hfrom 0 hd

theorem eqsR {P : Nat → Nat → Prop} {ds ds' : List Dc} (hd : All2 (DR P) ds ds') : All2 (DR P) (eqsF ds) (eqsF ds') :=
  All2.filter (fun a b hab => by rw [hab.1]) hd

theorem waitsR {P : Nat → Nat → Prop} {es es' : List Dc} (he : All2 (DR P) es es') : ∀ (l : List Rt) (M : Mx), waitsM es' l M = waitsM es l M := by
  have hp : ∀ k, (es'.getD k ⟨0, 0, ⟨#[]⟩, 0, 0, 0, 0⟩).place = (es.getD k ⟨0, 0, ⟨#[]⟩, 0, 0, 0, 0⟩).place := by
    intro k
    exact All2.getD (R := fun d d' : Dc => d'.place = d.place) rfl _ (by
      have := All2.map (f := id) (g := id) (S := fun d d' : Dc => d'.place = d.place) (fun a b hab => by
        have e := hab.1
        show b.place = a.place
        rw [e]) he
      simpa using this)
  intro l
  induction l with
  | nil => intro M; rfl
  | cons r l ih => intro M; unfold waitsM; rw [hp, ih]

theorem firstAtR {P : Nat → Nat → Prop} (M : Mx) : ∀ {l l' : List Dc}, All2 (DR P) l l' → OR P (firstAt M l) (firstAt M l') := by
  intro l
  induction l with
  | nil => intro m h; cases m with
    | nil => exact trivial
    | cons b m => exact h.elim
  | cons a l ih => intro m h; cases m with
    | nil => exact h.elim
    | cons b m =>
      obtain ⟨⟨e, hp⟩, h2⟩ := h
      unfold firstAt
      have e1 : b.place = a.place := by rw [e]
      rw [e1]
      split
      · exact hp
      · exact ih h2

theorem loopR {P : Nat → Nat → Prop} {ds ds' : List Dc} (hd : All2 (DR P) ds ds') {ns ns' : List Nd} (hn : All2 (NR P) ns ns') : OR P (loopF ds ns) (loopF ds' ns') := by
  unfold loopF
  rw [linksR hd hn, waitsR (eqsR hd)]
  exact firstAtR _ (eqsR hd)

/-- the same error, and places that belong together. -/
def AR (P : Nat → Nat → Prop) (x y : Nat × Nat) : Prop := y.1 = x.1 ∧ P x.2 y.2

theorem meaningR {P : Nat → Nat → Prop} (h00 : P 0 0) {ds ds' : List Dc} (hd : All2 (DR P) ds ds') {ns ns' : List Nd} (hn : All2 (NR P) ns ns') : AR P (meaningF ds ns) (meaningF ds' ns') := by
  unfold meaningF
  rcases (tooManyR hd).two with ⟨h1, h2⟩ | ⟨a, b, h1, h2, h3⟩
  · rw [h1, h2]
    rcases (badNameR hd hn 0 hd).two with ⟨h1, h2⟩ | ⟨a, b, h1, h2, h3⟩
    · rw [h1, h2, rootsR _ hd, hn.len]
      rcases (badTypeR hd 0 (roots ds (List.replicate ns.length false)) hn).two with ⟨h1, h2⟩ | ⟨a, b, h1, h2, h3⟩
      · rw [h1, h2]
        rcases (cycleR hd hn).two with ⟨h1, h2⟩ | ⟨a, b, h1, h2, h3⟩
        · rw [h1, h2]
          rcases (loopR hd hn).two with ⟨h1, h2⟩ | ⟨a, b, h1, h2, h3⟩
          · rw [h1, h2]; exact ⟨rfl, h00⟩
          · rw [h1, h2]; exact ⟨rfl, h3⟩
        · rw [h1, h2]; exact ⟨rfl, h3⟩
      · rw [h1, h2]; exact ⟨rfl, h3⟩
    · rw [h1, h2]; exact ⟨rfl, h3⟩
  · rw [h1, h2]; exact ⟨rfl, h3⟩

theorem SR.start (P : Nat → Nat → Prop) : SR P pZero pZero := ⟨rfl, rfl, rfl, trivial, trivial⟩

theorem textR {P : Nat → Nat → Prop} (h00 : P 0 0) (s s' : ByteArray) (hs : s.size ≤ 1500) (hs' : s'.size ≤ 1500) (ht : TsR P (toks s) (toks s')) : AR P (textF s) (textF s') := by
  unfold textF
  rw [if_neg (by omega), if_neg (by omega)]
  have hp : RR (SR P) (parseF s) (parseF s') := by
    unfold parseF
    rw [ht.len]
    exact declsR h00 ht _ _ _ (SR.start P)
  rcases hp.two with ⟨e, h1, h2⟩ | ⟨p, p', h1, h2, h3⟩
  · rw [h1, h2]; exact ⟨rfl, (ht.at' e).pos⟩
  · rw [h1, h2]
    exact meaningR h00 h3.decls (bindR h3.decls h3.nodes)

end Go.Proofs.Ytmndgoapkmhglab

/- Plain mathematics: a token that stands nowhere is found just there. -/
namespace Go.Proofs.Ytmndgoapkmhglab

/-- tokens have been used up, and not all. -/
def Fwd (ts : List Tk) (p p' : PS) : Prop := p.next < p'.next ∧ p'.next < ts.length
def ExM (ts : List Tk) (ex : Ex) : Prop := ∀ p r p', p.next < ts.length → ex p = .ok (r, p') → Fwd ts p p'

theorem fwd_adv {ts : List Tk} (ht : TsOk ts) {p : PS} (h : p.next < ts.length) (hk : (p.hd ts).kind ≠ 0 ∨ (p.hd ts).l ≠ []) : Fwd ts p (p.adv ts) := by
  rw [adv_next ht h hk]
  exact ⟨Nat.lt_succ_self _, ht.last h hk⟩
theorem Fwd.trans {ts : List Tk} {p q r : PS} (h : Fwd ts p q) (k : Fwd ts q r) : Fwd ts p r := ⟨Nat.lt_trans h.1 k.1, k.2⟩

theorem insideM {ts : List Tk} (ht : TsOk ts) {ex : Ex} (hx : ExM ts ex) {p p' : PS} {n n' : Nd} (h : p.next < ts.length) (he : insideF ts ex p n = .ok (n', p')) : Fwd ts p p' := by
  unfold insideF at he
  split at he
  · rename_i hl
    have s1 := fwd_adv ht h (.inr (by rw [hl]; decide))
    unfold notF at he
    split at he
    · cases he
    · rename_i e1
      cases he
      exact s1.trans (hx _ _ _ s1.2 e1)
  split at he
  · rename_i hl
    have s1 := fwd_adv ht h (.inr (by rw [hl]; decide))
    unfold choiceF at he
    split at he
    · cases he
    · rename_i e1
      have s2 := hx _ _ _ s1.2 e1
      split at he
      · cases he
      · rename_i e2
        have s3 := hx _ _ _ s2.2 e2
        split at he
        · cases he
        · rename_i e3
          cases he
          exact ((s1.trans s2).trans s3).trans (hx _ _ _ s3.2 e3)
  · unfold infixF at he
    split at he
    · cases he
    · rename_i a p1 e1
      have s1 := hx _ _ _ h e1
      split at he
      · rename_i hl
        have s2 := fwd_adv ht s1.2 (.inr (by rw [hl.2]; decide))
        unfold delayF at he
        split at he
        · cases he
        · rename_i e2
          cases he
          have s3 := hx _ _ _ (by exact s2.2) e2
          exact (s1.trans s2).trans s3
      · unfold infixRest at he
        split at he
        · cases he
        · rename_i op ho
          have s2 := fwd_adv ht s1.2 (.inr (by intro e; rw [e] at ho; simp [opOf] at ho))
          split at he
          · cases he
          · rename_i e2
            cases he
            exact (s1.trans s2).trans (hx _ _ _ s2.2 e2)

theorem bracketM {ts : List Tk} (ht : TsOk ts) {ex : Ex} (hx : ExM ts ex) {p p' : PS} {r : Nat} (h : p.next < ts.length) (hl : (p.hd ts).l = [40]) (he : bracketF ts ex p = .ok (r, p')) : Fwd ts p p' := by
  unfold bracketF at he
  have s1 : Fwd ts p ((p.add ts ndZero).adv ts) := fwd_adv ht (p := p.add ts ndZero) h (.inr (by show (p.hd ts).l ≠ []; rw [hl]; decide))
  split at he
  · cases he
  · rename_i n p2 e2
    have s2 := insideM ht hx (p := { (p.add ts ndZero).adv ts with depth := p.depth + 1 }) s1.2 e2
    split at he
    · cases he
    · rename_i p3 e3
      obtain ⟨rfl, hl3⟩ := take_grow e3
      cases he
      have s3 := fwd_adv ht (p := { p2 with depth := p2.depth - 1, nodes := p2.nodes.set p.nodes.length n }) s2.2 (.inr (by rw [hl3]; decide))
      exact (s1.trans s2).trans s3

theorem exprM {ts : List Tk} (ht : TsOk ts) : ∀ f, ExM ts (exprF ts f) := by
  have hatom : ∀ (p : PS) (br : Except Nat (Nat × PS)) (r : Nat) (p' : PS), p.next < ts.length → ((p.hd ts).l = [40] → ∀ r p', br = .ok (r, p') → Fwd ts p p') → atomF ts p br = .ok (r, p') → Fwd ts p p' := by
    intro p br r p' h hbr he
    have leaf : ∀ n, (p.hd ts).kind ≠ 0 ∨ (p.hd ts).l ≠ [] → Fwd ts p (leafF ts p n).2 := fun n hk => fwd_adv ht (p := p.add ts n) h hk
    unfold atomF at he
    split at he
    · rename_i hl; exact hbr hl _ _ he
    split at he
    · rename_i hl; cases he; exact leaf _ (.inr (by rw [hl]; decide))
    split at he
    · rename_i hl; cases he; exact leaf _ (.inr (by rw [hl]; decide))
    split at he
    · rename_i hl; cases he; exact leaf _ (.inl (by rw [hl]; decide))
    split at he
    · rename_i hl; cases he; exact leaf _ (.inl (by rw [hl]; decide))
    · cases he
  intro f
  induction f with
  | zero => intro p r p' h he; exact hatom p _ r p' h (fun _ _ _ h => by cases h) he
  | succ f ih => intro p r p' h he; exact hatom p _ r p' h (fun hl _ _ e => bracketM ht ih h hl e) he

/-- the words that are no names and no numbers. -/
def kwL : List (List UInt8) := [[40], [41], [59], [61], [43], [45], [42], [47], [60], [38], [124], kIn, kInt, kBool, kAt, kIf, kFby, kNot, kTrue, kFalse]

/-- the same tokens ahead of k, and at k one that stands nowhere. -/
structure CutTs (k : Nat) (ts ts' : List Tk) : Prop where
  ok : TsOk ts
  lt : k < ts.length
  lt' : k < ts'.length
  same : ∀ i, i < k → tkAt ts' i = tkAt ts i
  kind1 : (tkAt ts' k).kind ≠ 1
  kind3 : (tkAt ts' k).kind ≠ 3
  word : kwL.contains (tkAt ts' k).l = false

/-- what became of a part that was read well. -/
def CutTo {α : Type} (k : Nat) (q : PS) (a : α) (y : Except Nat α) : Prop := (q.next ≤ k ∧ y = .ok a) ∨ (k < q.next ∧ y = .error k)
def ExC (k : Nat) (ex ex' : Ex) : Prop := ∀ p r p', p.next ≤ k → ex p = .ok (r, p') → CutTo k p' (r, p') (ex' p)
def ExB (k : Nat) (ex' : Ex) : Prop := ∀ p, p.next = k → ex' p = .error k

section
variable {k : Nat} {ts ts' : List Tk}

theorem CutTs.no (hc : CutTs k ts ts') {l : List UInt8} (h1 : kwL.contains l = true) : (tkAt ts' k).l ≠ l := by
  intro e
  have := hc.word
  rw [e, h1] at this
  cases this
theorem CutTs.noOp (hc : CutTs k ts ts') : opOf (tkAt ts' k).l = none := by
  unfold opOf
  rw [if_neg (hc.no (by decide)), if_neg (hc.no (by decide)), if_neg (hc.no (by decide)), if_neg (hc.no (by decide)), if_neg (hc.no (by decide)), if_neg (hc.no (by decide)), if_neg (hc.no (by decide)), if_neg (hc.no (by decide))]
theorem CutTs.hd (hc : CutTs k ts ts') {p : PS} (h : p.next < k) : p.hd ts' = p.hd ts := hc.same _ h
theorem CutTs.adv (hc : CutTs k ts ts') {p : PS} (h : p.next < k) : p.adv ts' = p.adv ts ∧ (p.adv ts).next = p.next + 1 := by
  have h1 := hc.lt
  have h2 := hc.lt'
  unfold PS.adv
  rw [if_pos (by omega), if_pos (by omega)]
  exact ⟨rfl, rfl⟩
theorem CutTs.add (hc : CutTs k ts ts') {p : PS} (h : p.next < k) (n : Nd) : p.add ts' n = p.add ts n := by
  unfold PS.add
  rw [hc.hd h, hc.same (p.next - 1) (by omega)]
theorem CutTs.take (hc : CutTs k ts ts') {p q : PS} (h : p.next ≤ k) {l : List UInt8} (h1 : l ≠ []) (h2 : kwL.contains l = true) (he : p.take ts l = .ok q) : CutTo k q q (p.take ts' l) := by
  obtain ⟨rfl, hl⟩ := take_grow he
  by_cases hp : p.next < k
  · refine .inl ⟨by rw [(hc.adv hp).2]; omega, ?_⟩
    unfold PS.take
    rw [hc.hd hp, if_pos hl, (hc.adv hp).1]
  · have e : p.next = k := by omega
    have hf := fwd_adv hc.ok (p := p) (by rw [e]; exact hc.lt) (.inr (by rw [hl]; exact h1))
    refine .inr ⟨by rw [← e]; exact hf.1, ?_⟩
    unfold PS.take
    rw [if_neg (by show (tkAt ts' p.next).l ≠ l; rw [e]; exact hc.no h2), e]

theorem insideB (hc : CutTs k ts ts') {ex' : Ex} (hb : ExB k ex') {p : PS} {n : Nd} (h : p.next = k) : insideF ts' ex' p n = .error k := by
  unfold insideF
  have hh : p.hd ts' = tkAt ts' k := by unfold PS.hd; rw [h]
  rw [hh, if_neg (hc.no (by decide)), if_neg (hc.no (by decide))]
  unfold infixF
  rw [hb p h]

theorem insideC (hc : CutTs k ts ts') {ex ex' : Ex} (hx : ExC k ex ex') (hb : ExB k ex') (hm : ExM ts ex) {p p' : PS} {n n' : Nd} (hp : p.next ≤ k) (he : insideF ts ex p n = .ok (n', p')) : CutTo k p' (n', p') (insideF ts' ex' p n) := by
  have hlt := hc.lt
  have hf := insideM hc.ok hm (p := p) (by omega) he
  by_cases hpk' : p.next = k
  · exact .inr ⟨by have := hf.1; omega, insideB hc hb hpk'⟩
  have hpk : p.next < k := by omega
  obtain ⟨ha1, ha2⟩ := hc.adv hpk
  have hh := hc.hd hpk
  unfold insideF at he ⊢
  rw [hh]
  split at he
  · rename_i hl
    rw [if_pos hl]
    unfold notF at he ⊢
    rw [ha1]
    split at he
    · cases he
    · rename_i a p1 e1
      cases he
      rcases hx _ _ _ (by omega) e1 with ⟨h1, h2⟩ | ⟨h1, h2⟩
      · rw [h2]; exact .inl ⟨h1, rfl⟩
      · rw [h2]; exact .inr ⟨h1, rfl⟩
  rename_i hl0
  rw [if_neg hl0]
  split at he
  · rename_i hl
    rw [if_pos hl]
    unfold choiceF at he ⊢
    rw [ha1]
    split at he
    · cases he
    · rename_i a p1 e1
      have hlt1 := hm _ _ _ (by omega) e1
      split at he
      · cases he
      · rename_i b p2 e2
        have hlt2 := hm _ _ _ hlt1.2 e2
        split at he
        · cases he
        · rename_i c p3 e3
          have hlt3 := hm _ _ _ hlt2.2 e3
          cases he
          have a1 := hlt1.1
          have a2 := hlt2.1
          have a3 := hlt3.1
          rcases hx _ _ _ (by omega) e1 with ⟨h1, h2⟩ | ⟨h1, h2⟩
          · rw [h2]
            simp only
            rcases hx _ _ _ h1 e2 with ⟨h3, h4⟩ | ⟨h3, h4⟩
            · rw [h4]
              simp only
              rcases hx _ _ _ h3 e3 with ⟨h5, h6⟩ | ⟨h5, h6⟩
              · rw [h6]; exact .inl ⟨h5, rfl⟩
              · rw [h6]; exact .inr ⟨h5, rfl⟩
            · rw [h4]; exact .inr ⟨by omega, rfl⟩
          · rw [h2]; exact .inr ⟨by omega, rfl⟩
  rename_i hl1
  rw [if_neg hl1]
  unfold infixF at he ⊢
  split at he
  · cases he
  · rename_i a p1 e1
    have hlt1 := hm _ _ _ (by omega) e1
    have a1 := hlt1.1
    split at he
    · rename_i hl
      have hlt2 := fwd_adv hc.ok hlt1.2 (.inr (by rw [hl.2]; decide))
      have a2 := hlt2.1
      unfold delayF at he
      split at he
      · cases he
      · rename_i b p2 e2
        have hlt3 := hm { p1.adv ts with delays := (p1.adv ts).delays + 1 } _ _ hlt2.2 e2
        have a3 : (p1.adv ts).next < p2.next := hlt3.1
        cases he
        show CutTo k { p2 with delays := p2.delays - 1 } _ _
        rcases hx _ _ _ hp e1 with ⟨h1, h2⟩ | ⟨h1, h2⟩
        · rw [h2]
          simp only
          by_cases hk1 : p1.next < k
          · obtain ⟨b1, b2⟩ := hc.adv hk1
            rw [hc.hd hk1, if_pos hl, b1]
            unfold delayF
            rcases hx _ _ _ (by show (p1.adv ts).next ≤ k; omega) e2 with ⟨h5, h6⟩ | ⟨h5, h6⟩
            · rw [h6]; exact .inl ⟨h5, rfl⟩
            · rw [h6]; exact .inr ⟨h5, rfl⟩
          · have e : p1.next = k := by omega
            have hh' : p1.hd ts' = tkAt ts' k := by unfold PS.hd; rw [e]
            refine .inr ⟨by show k < p2.next; omega, ?_⟩
            rw [hh', if_neg (fun x => hc.no (by decide) x.2)]
            unfold infixRest
            rw [hh']
            have ho := hc.noOp
            rw [ho, e]
        · rw [h2]; exact .inr ⟨by show k < p2.next; omega, rfl⟩
    · rename_i hl
      unfold infixRest at he
      split at he
      · cases he
      · rename_i op ho
        have hlt2 := fwd_adv hc.ok hlt1.2 (.inr (by intro e; rw [e] at ho; simp [opOf] at ho))
        have a2 := hlt2.1
        split at he
        · cases he
        · rename_i b p2 e2
          have hlt3 := hm _ _ _ hlt2.2 e2
          have a3 : (p1.adv ts).next < p2.next := hlt3.1
          cases he
          rcases hx _ _ _ hp e1 with ⟨h1, h2⟩ | ⟨h1, h2⟩
          · rw [h2]
            simp only
            by_cases hk1 : p1.next < k
            · obtain ⟨b1, b2⟩ := hc.adv hk1
              rw [hc.hd hk1, if_neg hl]
              unfold infixRest
              rw [hc.hd hk1, ho, b1]
              simp only
              rcases hx _ _ _ (by omega) e2 with ⟨h5, h6⟩ | ⟨h5, h6⟩
              · rw [h6]; exact .inl ⟨h5, rfl⟩
              · rw [h6]; exact .inr ⟨h5, rfl⟩
            · have e : p1.next = k := by omega
              have hh' : p1.hd ts' = tkAt ts' k := by unfold PS.hd; rw [e]
              refine .inr ⟨by omega, ?_⟩
              rw [hh', if_neg (fun x => hc.no (by decide) x.2)]
              unfold infixRest
              rw [hh']
              have ho := hc.noOp
              rw [ho, e]
          · rw [h2]; exact .inr ⟨by omega, rfl⟩

theorem bracketC (hc : CutTs k ts ts') {ex ex' : Ex} (hx : ExC k ex ex') (hb : ExB k ex') (hm : ExM ts ex) {p p' : PS} {r : Nat} (hp : p.next < k) (he : bracketF ts ex p = .ok (r, p')) : CutTo k p' (r, p') (bracketF ts' ex' p) := by
  have hlt := hc.lt
  have hadd := hc.add hp ndZero
  obtain ⟨b1, b2⟩ := hc.adv (p := p.add ts ndZero) hp
  unfold bracketF at he ⊢
  rw [hadd, b1]
  split at he
  · cases he
  · rename_i n p2 e2
    have hle : ({ (p.add ts ndZero).adv ts with depth := p.depth + 1 } : PS).next ≤ k := by show ((p.add ts ndZero).adv ts).next ≤ k; rw [b2]; exact hp
    have hf := insideM hc.ok hm (p := { (p.add ts ndZero).adv ts with depth := p.depth + 1 }) (by omega) e2
    split at he
    · cases he
    · rename_i p3 e3
      cases he
      have hf3 : p2.next < p'.next := by
        obtain ⟨rfl, hl3⟩ := take_grow e3
        exact (fwd_adv hc.ok (p := { p2 with depth := p2.depth - 1, nodes := p2.nodes.set p.nodes.length n }) hf.2 (.inr (by rw [hl3]; decide))).1
      rcases insideC hc hx hb hm hle e2 with ⟨h1, h2⟩ | ⟨h1, h2⟩
      · rw [h2]
        simp only
        rcases hc.take (p := { p2 with depth := p2.depth - 1, nodes := p2.nodes.set p.nodes.length n }) h1 (by decide) (by decide) e3 with ⟨h3, h4⟩ | ⟨h3, h4⟩
        · rw [h4]; exact .inl ⟨h3, rfl⟩
        · rw [h4]; exact .inr ⟨h3, rfl⟩
      · rw [h2]; exact .inr ⟨by omega, rfl⟩

theorem exprB (hc : CutTs k ts ts') : ∀ f, ExB k (exprF ts' f) := by
  intro f p h
  have hat : ∀ br, atomF ts' p br = .error k := by
    intro br
    have hh : p.hd ts' = tkAt ts' k := by unfold PS.hd; rw [h]
    unfold atomF
    rw [hh, if_neg (hc.no (by decide)), if_neg (hc.no (by decide)), if_neg (hc.no (by decide)), if_neg hc.kind3, if_neg hc.kind1, h]
  cases f with
  | zero => exact hat _
  | succ f => exact hat _

theorem exprC (hc : CutTs k ts ts') : ∀ f, ExC k (exprF ts f) (exprF ts' f) := by
  have hatom : ∀ (p : PS) (br br' : Except Nat (Nat × PS)) (r : Nat) (p' : PS), p.next < k → ((p.hd ts).l = [40] → ∀ r p', br = .ok (r, p') → CutTo k p' (r, p') br') → atomF ts p br = .ok (r, p') → CutTo k p' (r, p') (atomF ts' p br') := by
    intro p br br' r p' hp hbr he
    have leaf : ∀ n, CutTo k (leafF ts p n).2 (leafF ts p n) (.ok (leafF ts' p n)) := by
      intro n
      obtain ⟨b1, b2⟩ := hc.adv (p := p.add ts n) hp
      have e : leafF ts' p n = leafF ts p n := by unfold leafF; rw [hc.add hp, b1]
      rw [e]
      refine .inl ⟨?_, rfl⟩
      show ((p.add ts n).adv ts).next ≤ k
      rw [b2]; exact hp
    unfold atomF at he ⊢
    rw [hc.hd hp]
    split at he
    · rename_i hl; rw [if_pos hl]; exact hbr hl _ _ he
    rename_i h1; rw [if_neg h1]
    split at he
    · rename_i hl; rw [if_pos hl]; cases he; exact leaf _
    rename_i h1; rw [if_neg h1]
    split at he
    · rename_i hl; rw [if_pos hl]; cases he; exact leaf _
    rename_i h1; rw [if_neg h1]
    split at he
    · rename_i hl; rw [if_pos hl]; cases he; exact leaf _
    rename_i h1; rw [if_neg h1]
    split at he
    · rename_i hl; rw [if_pos hl]; cases he; exact leaf _
    · cases he
  intro f
  induction f with
  | zero =>
    intro p r p' hp he
    by_cases e : p.next = k
    · exact .inr ⟨by have := exprM hc.ok 0 p r p' (by have := hc.lt; omega) he; have := this.1; omega, exprB hc 0 p e⟩
    · exact hatom p _ _ r p' (by omega) (fun _ _ _ h => by cases h) he
  | succ f ih =>
    intro p r p' hp he
    by_cases e : p.next = k
    · exact .inr ⟨by have := exprM hc.ok (f + 1) p r p' (by have := hc.lt; omega) he; have := this.1; omega, exprB hc (f + 1) p e⟩
    · exact hatom p _ _ r p' (by omega) (fun _ _ _ h => bracketC hc ih (exprB hc f) (exprM hc.ok f) (by omega) h) he

end
end Go.Proofs.Ytmndgoapkmhglab

/- Plain mathematics: declarations, and a token that stands nowhere. -/
namespace Go.Proofs.Ytmndgoapkmhglab

theorem place_fwd {ts : List Tk} (ht : TsOk ts) {p p' : PS} {r : Nat} (h : p.next < ts.length) (he : placeF ts p = .ok (r, p')) : Fwd ts p p' := by
  unfold placeF at he
  split at he
  · rename_i hk; cases he; exact fwd_adv ht h (.inl (by rw [hk.1]; decide))
  · cases he

theorem take_fwd {ts : List Tk} (ht : TsOk ts) {p p' : PS} {l : List UInt8} (hl : l ≠ []) (h : p.next < ts.length) (he : p.take ts l = .ok p') : Fwd ts p p' := by
  obtain ⟨rfl, e⟩ := take_grow he
  exact fwd_adv ht h (.inr (by rw [e]; exact hl))

/-- a declaration ends behind a ; -/
theorem take_prev {ts : List Tk} (ht : TsOk ts) {p p' : PS} {l : List UInt8} (hl : l ≠ []) (h : p.next < ts.length) (he : p.take ts l = .ok p') : (tkAt ts (p'.next - 1)).l = l := by
  obtain ⟨rfl, e⟩ := take_grow he
  rw [adv_next ht h (.inr (by rw [e]; exact hl))]
  exact e

theorem declarationM {ts : List Tk} (ht : TsOk ts) {p p' : PS} (h : p.next < ts.length) (he : declarationF ts p = .ok p') : Fwd ts p p' ∧ (tkAt ts (p'.next - 1)).l = [59] := by
  have inp : (p.hd ts).l ≠ [] → inputF ts p = .ok p' → Fwd ts p p' ∧ (tkAt ts (p'.next - 1)).l = [59] := by
    intro hl he
    have s1 := fwd_adv ht h (.inr hl)
    unfold inputF at he
    split at he
    · rename_i hk
      have s2 := fwd_adv ht s1.2 (.inl (by rw [hk]; decide))
      have s3 := take_fwd ht (p := ((p.adv ts).adv ts).declare _) (by decide) s2.2 he
      exact ⟨(s1.trans s2).trans s3, take_prev ht (p := ((p.adv ts).adv ts).declare _) (by decide) s2.2 he⟩
    · cases he
  have eqn : ∀ kind, (p.hd ts).l ≠ [] → equationF ts kind p = .ok p' → Fwd ts p p' ∧ (tkAt ts (p'.next - 1)).l = [59] := by
    intro kind hl he
    have s1 := fwd_adv ht h (.inr hl)
    unfold equationF at he
    split at he
    · rename_i hk
      have s2 := fwd_adv ht s1.2 (.inl (by rw [hk]; decide))
      split at he
      · cases he
      rename_i p3 e3
      have s3 := take_fwd ht (by decide) s2.2 e3
      split at he
      · cases he
      rename_i pl p4 e4
      have s4 := place_fwd ht s3.2 e4
      split at he
      · cases he
      rename_i p5 e5
      have s5 := take_fwd ht (by decide) s4.2 e5
      split at he
      · cases he
      rename_i r p6 e6
      have s6 := exprM ht 16 _ _ _ s5.2 e6
      have s7 := take_fwd ht (p := p6.declare _) (by decide) s6.2 he
      exact ⟨(((((s1.trans s2).trans s3).trans s4).trans s5).trans s6).trans s7, take_prev ht (p := p6.declare _) (by decide) s6.2 he⟩
    · cases he
  unfold declarationF at he
  split at he
  · rename_i hl; exact inp (by rw [hl]; decide) he
  split at he
  · rename_i hl; exact eqn 1 (by rw [hl]; decide) he
  split at he
  · rename_i hl; exact eqn 2 (by rw [hl]; decide) he
  · cases he

section
variable {k : Nat} {ts ts' : List Tk}

theorem CutTs.place (hc : CutTs k ts ts') {p p' : PS} {r : Nat} (h : p.next ≤ k) (he : placeF ts p = .ok (r, p')) : CutTo k p' (r, p') (placeF ts' p) := by
  have hf := place_fwd hc.ok (by have := hc.lt; omega) he
  by_cases hp : p.next = k
  · refine .inr ⟨by have := hf.1; omega, ?_⟩
    have hh : p.hd ts' = tkAt ts' k := by unfold PS.hd; rw [hp]
    unfold placeF
    rw [hh, if_neg (fun x => hc.kind3 x.1), hp]
  · have hp' : p.next < k := by omega
    unfold placeF at he ⊢
    rw [hc.hd hp']
    split at he
    · rename_i hk
      cases he
      rw [if_pos hk, (hc.adv hp').1]
      exact .inl ⟨by rw [(hc.adv hp').2]; omega, rfl⟩
    · cases he

theorem declarationB (hc : CutTs k ts ts') {p : PS} (h : p.next = k) : declarationF ts' p = .error k := by
  have hh : p.hd ts' = tkAt ts' k := by unfold PS.hd; rw [h]
  unfold declarationF
  rw [hh, if_neg (hc.no (by decide)), if_neg (hc.no (by decide)), if_neg (hc.no (by decide)), h]

theorem declarationC (hc : CutTs k ts ts') {p p' : PS} (hp : p.next ≤ k) (he : declarationF ts p = .ok p') : CutTo k p' p' (declarationF ts' p) := by
  have hlt := hc.lt
  have hf := (declarationM hc.ok (by omega) he).1
  by_cases hpk' : p.next = k
  · exact .inr ⟨by have := hf.1; omega, declarationB hc hpk'⟩
  have hpk : p.next < k := by omega
  obtain ⟨ha1, ha2⟩ := hc.adv hpk
  have hh := hc.hd hpk
  have hq : (p.adv ts).next ≤ k := by omega
  -- the name
  have name : ∀ (F F' : Except Nat PS), (((p.adv ts).hd ts).kind = 1) → ((p.adv ts).next < k → CutTo k p' p' F') → CutTo k p' p' (if ((p.adv ts).hd ts').kind = 1 then F' else .error (p.adv ts).next) := by
    intro F F' hk hF
    by_cases e : (p.adv ts).next = k
    · have hh' : (p.adv ts).hd ts' = tkAt ts' k := by unfold PS.hd; rw [e]
      rw [hh', if_neg hc.kind1, e]
      refine .inr ⟨?_, rfl⟩
      -- more than the name was used up
      have s1 := ha2
      unfold declarationF at he
      have hmore : (p.adv ts).next < p'.next := by
        split at he
        · unfold inputF at he
          rw [if_pos hk] at he
          have s2 := fwd_adv hc.ok (p := p.adv ts) (by omega) (.inl (by rw [hk]; decide))
          have s3 := take_fwd hc.ok (p := ((p.adv ts).adv ts).declare _) (by decide) s2.2 he
          exact (s2.trans s3).1
        have eqn : ∀ kind, equationF ts kind p = .ok p' → (p.adv ts).next < p'.next := by
          intro kind he
          unfold equationF at he
          rw [if_pos hk] at he
          have s2 := fwd_adv hc.ok (p := p.adv ts) (by omega) (.inl (by rw [hk]; decide))
          split at he
          · cases he
          rename_i p3 e3
          have s3 := take_fwd hc.ok (by decide) s2.2 e3
          split at he
          · cases he
          rename_i pl p4 e4
          have s4 := place_fwd hc.ok s3.2 e4
          split at he
          · cases he
          rename_i p5 e5
          have s5 := take_fwd hc.ok (by decide) s4.2 e5
          split at he
          · cases he
          rename_i r p6 e6
          have s6 := exprM hc.ok 16 _ _ _ s5.2 e6
          have s7 := take_fwd hc.ok (p := p6.declare _) (by decide) s6.2 he
          exact (((((s2.trans s3).trans s4).trans s5).trans s6).trans s7).1
        split at he
        · exact eqn _ he
        split at he
        · exact eqn _ he
        · cases he
      omega
    · have hk' : (p.adv ts).next < k := by omega
      rw [hc.hd hk', if_pos hk]
      exact hF hk'
  have eqn : ∀ kind, equationF ts kind p = .ok p' → CutTo k p' p' (equationF ts' kind p) := by
    intro kind he
    unfold equationF at he ⊢
    rw [ha1]
    split at he
    · rename_i hk
      refine name (.error 0) _ hk ?_
      intro hk'
      obtain ⟨b1, b2⟩ := hc.adv hk'
      have s2 : Fwd ts (p.adv ts) ((p.adv ts).adv ts) := fwd_adv hc.ok (by omega) (.inl (by rw [hk]; decide))
      rw [b1, hc.hd hk']
      split at he
      · cases he
      rename_i p3 e3
      have s3 := take_fwd hc.ok (by decide) s2.2 e3
      split at he
      · cases he
      rename_i pl p4 e4
      have s4 := place_fwd hc.ok s3.2 e4
      split at he
      · cases he
      rename_i p5 e5
      have s5 := take_fwd hc.ok (by decide) s4.2 e5
      split at he
      · cases he
      rename_i r p6 e6
      have s6 := exprM hc.ok 16 _ _ _ s5.2 e6
      have s7 : p6.next < p'.next := (take_fwd hc.ok (p := p6.declare _) (by decide) s6.2 he).1
      have t3 := s3.1
      have t4 := s4.1
      have t5 := s5.1
      have t6 := s6.1
      rcases hc.take (by omega) (by decide) (by decide) e3 with ⟨h1, h2⟩ | ⟨h1, h2⟩
      · rw [h2]
        simp only
        rcases hc.place h1 e4 with ⟨h3, h4⟩ | ⟨h3, h4⟩
        · rw [h4]
          simp only
          rcases hc.take h3 (by decide) (by decide) e5 with ⟨h5, h6⟩ | ⟨h5, h6⟩
          · rw [h6]
            simp only
            rcases exprC hc 16 _ _ _ h5 e6 with ⟨h7, h8⟩ | ⟨h7, h8⟩
            · rw [h8]
              simp only
              exact hc.take (p := p6.declare _) h7 (by decide) (by decide) he
            · rw [h8]; exact .inr ⟨by omega, rfl⟩
          · rw [h6]; exact .inr ⟨by omega, rfl⟩
        · rw [h4]; exact .inr ⟨by omega, rfl⟩
      · rw [h2]; exact .inr ⟨by omega, rfl⟩
    · cases he
  unfold declarationF at he ⊢
  rw [hh]
  split at he
  · rename_i hl
    rw [if_pos hl]
    unfold inputF at he ⊢
    rw [ha1]
    split at he
    · rename_i hk
      refine name (.error 0) _ hk ?_
      intro hk'
      obtain ⟨b1, b2⟩ := hc.adv hk'
      rw [b1, hc.hd hk']
      exact hc.take (p := ((p.adv ts).adv ts).declare _) (by show ((p.adv ts).adv ts).next ≤ k; omega) (by decide) (by decide) he
    · cases he
  rename_i hl0; rw [if_neg hl0]
  split at he
  · rename_i hl; rw [if_pos hl]; exact eqn _ he
  rename_i hl1; rw [if_neg hl1]
  split at he
  · rename_i hl; rw [if_pos hl]; exact eqn _ he
  · cases he

theorem declsC (hc : CutTs k ts ts') (hdis : (tkAt ts' k).kind ≠ 0 ∨ ((tkAt ts k).kind ≠ 0 ∧ (tkAt ts k).l = [59])) : ∀ f f' p p', p.next ≤ k → ts'.length ≤ f' + p.next → declsF ts f p = .ok p' → (p'.hd ts).kind = 0 → k ≤ p'.next → declsF ts' f' p = .error k := by
  have hlt' := hc.lt'
  have hlt := hc.lt
  have atK : ∀ f' p, p.next = k → (tkAt ts' k).kind ≠ 0 → ts'.length ≤ f' + p.next → declsF ts' f' p = .error k := by
    intro f' p e hk hf
    cases f' with
    | zero => omega
    | succ f' =>
      have hh : p.hd ts' = tkAt ts' k := by unfold PS.hd; rw [e]
      unfold declsF
      rw [hh, if_neg hk, declarationB hc e]
  intro f
  induction f with
  | zero =>
    intro f' p p' hp hf he hk hkp
    cases he
    have e : p.next = k := by omega
    rcases hdis with h | ⟨h, _⟩
    · exact atK f' p e h hf
    · exact absurd hk (by show (tkAt ts p.next).kind ≠ 0; rw [e]; exact h)
  | succ f ih =>
    intro f' p p' hp hf he hk hkp
    unfold declsF at he
    split at he
    · rename_i hz
      cases he
      have e : p.next = k := by omega
      rcases hdis with h | ⟨h, _⟩
      · exact atK f' p e h hf
      · exact absurd hk (by show (tkAt ts p.next).kind ≠ 0; rw [e]; exact h)
    · rename_i hz
      split at he
      · cases he
      · rename_i q e1
        have s1 := (declarationM hc.ok (by omega) e1).1
        have t1 := s1.1
        by_cases e : p.next = k
        · rcases hdis with h | ⟨_, h⟩
          · exact atK f' p e h hf
          · exfalso
            have hh : p.hd ts = tkAt ts k := by unfold PS.hd; rw [e]
            unfold declarationF at e1
            rw [hh, h, if_neg (by decide), if_neg (by decide), if_neg (by decide)] at e1
            cases e1
        · have hpk : p.next < k := by omega
          cases f' with
          | zero => omega
          | succ f' =>
            unfold declsF
            rw [hc.hd hpk, if_neg hz]
            rcases declarationC hc hp e1 with ⟨h1, h2⟩ | ⟨h1, h2⟩
            · rw [h2]
              exact ih f' q p' h1 (by omega) he hk hkp
            · rw [h2]

theorem declsEnd (ht : TsOk ts) : ∀ f p p', p.next < ts.length → ts.length ≤ f + p.next → declsF ts f p = .ok p' → (p'.hd ts).kind = 0 ∧ p'.next < ts.length ∧ (p' = p ∨ (tkAt ts (p'.next - 1)).l = [59]) := by
  intro f
  induction f with
  | zero => intro p p' h hf he; omega
  | succ f ih =>
    intro p p' h hf he
    unfold declsF at he
    split at he
    · rename_i hz; cases he; exact ⟨hz, h, .inl rfl⟩
    · split at he
      · cases he
      · rename_i q e1
        obtain ⟨s1, s2⟩ := declarationM ht h e1
        have t1 := s1.1
        obtain ⟨h1, h2, h3⟩ := ih q p' s1.2 (by omega) he
        refine ⟨h1, h2, .inr ?_⟩
        rcases h3 with rfl | h3
        · exact s2
        · exact h3
end
end Go.Proofs.Ytmndgoapkmhglab

namespace Go.Proofs.Ytmndgoapkmhglab
open Go.RowKit


def rcl (c : Nat) : Nat := if c = 0 then 32 else if c = 1 then 97 else if c = 2 then 48 else if c = 3 then 115 else 120
def rcls (c : Nat) : Nat := rcl (cls c)

def signB : ByteArray := { data := #[40, 41, 59, 61, 43, 45, 42, 47, 60, 38, 124] }
theorem signB_at : ∀ k : Fin 11, (signB[k.1]'(k.2)).toNat = signL.getD k.1 0 := by decide
theorem sign_hit {k c : Nat} (h : k < 11) (h1 : (((signB[k]'h).toNat : Int) == (c : Int)) = true) : signL.contains c = true := by
  have e := signB_at ⟨k, h⟩
  simp only [beq_iff_eq, Int.natCast_inj] at h1
  simp only at e
  rw [e] at h1
  subst h1
  have : ∀ k : Fin 11, signL.contains (signL.getD k.1 0) = true := by decide
  exact this ⟨k, h⟩
theorem sign_miss {k c : Nat} (h : k < 11) (h1 : (((signB[k]'h).toNat : Int) == (c : Int)) = false) : signL.getD k 0 ≠ c := by
  have e := signB_at ⟨k, h⟩
  simp only at e
  rw [← e]
  intro h2
  rw [h2] at h1
  simp at h1
theorem sign_none {c : Nat} (h : ∀ j, j < 11 → signL.getD j 0 ≠ c) : signL.contains c = false := by
  rw [List.contains_eq_mem]
  simp only [decide_eq_false_iff_not]
  intro hm
  obtain ⟨j, hj, e⟩ := List.getElem_of_mem hm
  refine h j hj ?_
  rw [List.getD_eq_getElem?_getD, List.getElem?_eq_getElem hj]
  exact e

set_option maxHeartbeats 400000 in
theorem refclass_any (c : Nat) (w : World) :
    Calls Try.prog 88 #[.int .u8 (c : Int)] w fun e w' => e = .returned (.int .u8 (rcls c : Nat)) ∧ w = w' := by
  by_cases h1 : 97 ≤ c ∧ c ≤ 122
  · have HF : Hid (rcls c = 97) := hide (by rw [rcls, cls_1 h1.1 h1.2]; rfl)
    obtain ⟨h1, h2⟩ := h1
    go_enter Try.func88, Try.ntmps88
    go_wp2
    go_ret
    exact ⟨by rw [HF.out]; rfl, rfl⟩
  by_cases h2 : 48 ≤ c ∧ c ≤ 57
  · have HF : Hid (rcls c = 48) := hide (by rw [rcls, cls_2 h2.1 h2.2]; rfl)
    obtain ⟨h2, h3⟩ := h2
    clear h1
    go_enter Try.func88, Try.ntmps88
    go_wp2
    go_ret
    exact ⟨by rw [HF.out]; rfl, rfl⟩
  by_cases h3 : c = 32
  · subst h3
    go_enter Try.func88, Try.ntmps88
    go_wp2
    go_ret
    exact ⟨rfl, rfl⟩
  by_cases h4 : c = 10
  · subst h4
    go_enter Try.func88, Try.ntmps88
    go_wp2
    go_ret
    exact ⟨rfl, rfl⟩
  have HF : Hid (rcls c = if signL.contains c then 115 else 120) := hide (by rw [rcls, cls_34 h1 h2 h3 h4]; split <;> rfl)
  have k3 : ((c : Int) == 32) = false := by simp; omega
  have k4 : ((c : Int) == 10) = false := by simp; omega
  have hiv : c < 48 ∨ (57 < c ∧ c < 97) ∨ 122 < c := by omega
  clear h3 h4 h1 h2
  rcases hiv with h | ⟨h, h'⟩ | h
  all_goals
    go_enter Try.func88, Try.ntmps88
    go_wp2
    go_loop [4] (fun i => ∃ k : Nat, k ≤ 11 ∧ i = .int .i64 k ∧ ∀ j, j < k → signL.getD j 0 ≠ c) (fun i => 11 - (intOf i).toNat)
    case atStart => exact ⟨0, by omega, rfl, by intro j hj; omega⟩
    case round =>
      obtain ⟨k, hk, rfl, hne⟩ := hrel
      have HN := hide hne
      clear hne
      by_cases hlt : k < 11
      · go_wp2
        · go_ret
          exact ⟨ret_intN (by rw [HF.out, if_pos (sign_hit hlt ‹_›)]; rfl), rfl⟩
        · refine ⟨⟨k + 1, by omega, by go_num, fun j hj => ?_⟩, by simp [intOf]; omega⟩
          by_cases e : j = k
          · subst e; exact sign_miss hlt ‹_›
          · exact HN.out j (by omega)
      · have ek : k = 11 := by omega
        subst ek
        go_wp2
        go_ret
        exact ⟨ret_intN (by rw [HF.out, if_neg (by rw [sign_none HN.out]; simp)]; rfl), rfl⟩

end Go.Proofs.Ytmndgoapkmhglab

namespace Go.Proofs.Ytmndgoapkmhglab
open Go.RowKit
attribute [local go_sem ↓] Go.wp_at_zero Go.wp_at_succ

set_option maxHeartbeats 1000000 in
theorem rkept_any (t : ByteArray) (w : World) :
    Calls Try.prog 114 #[.string t] w fun e w' => e = .returned (.bool (keptL.contains t.data.toList)) ∧ w = w' := by
  by_cases hk : keptL.contains t.data.toList = true
  · have HF := hide hk
    have hc : t.data.toList = kIn ∨ t.data.toList = kInt ∨ t.data.toList = kBool ∨ t.data.toList = kAt ∨ t.data.toList = kIf ∨ t.data.toList = kFby ∨ t.data.toList = kNot ∨ t.data.toList = kTrue ∨ t.data.toList = kFalse := by
      simpa [keptL] using hk
    clear hk
    rcases hc with h | h | h | h | h | h | h | h | h
    all_goals
      have et := str_yes h
      simp only [kIn, kInt, kBool, kAt, kIf, kFby, kNot, kTrue, kFalse] at et
      clear h
      go_enter Try.func114, Try.ntmps114
      go_wp2
      go_ret
      exact ⟨by rw [HF.out]; rfl, rfl⟩
  · have hn : ∀ l ∈ keptL, (t.toList == l) = false := fun l hl => str_no (by rintro rfl; exact hk (by simpa using hl))
    have HF : Hid (keptL.contains t.data.toList = false) := hide (by simpa using hk)
    have n1 := hn kIn (by simp [keptL])
    have n2 := hn kInt (by simp [keptL])
    have n3 := hn kBool (by simp [keptL])
    have n4 := hn kAt (by simp [keptL])
    have n5 := hn kIf (by simp [keptL])
    have n6 := hn kFby (by simp [keptL])
    have n7 := hn kNot (by simp [keptL])
    have n8 := hn kTrue (by simp [keptL])
    have n9 := hn kFalse (by simp [keptL])
    simp only [kIn, kInt, kBool, kAt, kIf, kFby, kNot, kTrue, kFalse] at n1 n2 n3 n4 n5 n6 n7 n8 n9
    clear hn hk
    go_enter Try.func114, Try.ntmps114
    go_wp2
    go_ret
    exact ⟨by rw [HF.out]; rfl, rfl⟩

theorem rcl_inj {a b : Nat} (ha : a ≤ 4) (hb : b ≤ 4) : ((rcl a : Int) == (rcl b : Int)) = (a == b) := by
  have h1 : a = 0 ∨ a = 1 ∨ a = 2 ∨ a = 3 ∨ a = 4 := by omega
  have h2 : b = 0 ∨ b = 1 ∨ b = 2 ∨ b = 3 ∨ b = 4 := by omega
  rcases h1 with rfl | rfl | rfl | rfl | rfl <;> rcases h2 with rfl | rfl | rfl | rfl | rfl <;> rfl

abbrev RTk.val (t : RTk) : Value := .agg #[.int .u8 (t.c : Int), .string t.word, .int .i64 (t.pos : Int), .int .i64 (t.n : Int)]

/-- what the number's own loop has reckoned. -/
def valTo (s : ByteArray) (k j : Nat) : Nat := valN (s.extract k (endOf s k)).data.toList j

end Go.Proofs.Ytmndgoapkmhglab

namespace Go.Proofs.Ytmndgoapkmhglab
open Go.RowKit

def bCells (l : List UInt8) : List Value := l.map fun b => Value.int .u8 b.toNat
theorem bCells_app (l m : List UInt8) : bCells (l ++ m) = bCells l ++ bCells m := by simp [bCells]
theorem size_mk (l : List UInt8) : (ByteArray.mk l.toArray).size = l.length := by simp [ByteArray.size]

theorem Try.infoU8 : (Try.prog.info? 5).map (fun i => (i.zero, i.size, i.bytes)) = some (some (.int .u8 0), 1, 1) := by kernel_rfl

end Go.Proofs.Ytmndgoapkmhglab
