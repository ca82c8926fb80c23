import Derived.Test.YtmndgoapkmhglabB22LayN
import Derived.Test.YtmndgoapkmhglabB25Pick
import Derived.Test.YtmndgoapkmhglabB31CpW
import Derived.Test.YtmndgoapkmhglabB33MarkE
import Derived.Test.YtmndgoapkmhglabB38KpB
import Derived.Test.YtmndgoapkmhglabB42SvB
/- an argument of four fields, opened. -/
namespace Go.Proofs.Ytmndgoapkmhglab
open Go.ChangeShapes Go.WideShapes Go.RowKit Go.Deep

section
variable {H : Type} {enc : TypeId × Value → H} {P : Program} {w : World} {base : Nat} {spare : Nat → Bool} {held : Bool}

/-- four fields of one cell each. -/
theorem trod_four {t t0 t1 t2 t3 : TypeId} {fs : Array Field} {fuel : Nat} {cs : List Value} {x : DataW H × List MemPlace} (hu : P.underlying t = some (.struct fs)) (hf : fs.toList.map (fun f => (f.type, f.offset)) = [(t0, 0), (t1, 1), (t2, 2), (t3, 3)]) (hc : P.cellsOf t = 4)
    (c0 : P.cellsOf t0 = 1) (c1 : P.cellsOf t1 = 1) (c2 : P.cellsOf t2 = 1) (c3 : P.cellsOf t3 = 1) (h : DataW.trod enc P w base spare held fuel t cs = some x) :
    ∃ v0 v1 v2 v3 y0 y1 y2 y3 n, cs = [v0, v1, v2, v3] ∧ x.1 = .agg [y0.1, y1.1, y2.1, y3.1] ∧ DataW.trod enc P w base spare held n t0 [v0] = some y0 ∧ DataW.trod enc P w base spare held n t1 [v1] = some y1 ∧ DataW.trod enc P w base spare held n t2 [v2] = some y2 ∧ DataW.trod enc P w base spare held n t3 [v3] = some y3 ∧
      ∀ m, (m ∈ y0.1.weights P t0 ∨ m ∈ y1.1.weights P t1 ∨ m ∈ y2.1.weights P t2 ∨ m ∈ y3.1.weights P t3) → m ∈ x.1.weights P t := by
  obtain ⟨xs, n, _, rfl, hl, hlen, hg⟩ := DataW.trod_struct hu h
  obtain ⟨f0, r0, q0, e0, hf⟩ := List.map_eq_cons_iff.1 hf
  obtain ⟨f1, r1, rfl, e1, hf⟩ := List.map_eq_cons_iff.1 hf
  obtain ⟨f2, r2, rfl, e2, hf⟩ := List.map_eq_cons_iff.1 hf
  obtain ⟨f3, r3, rfl, e3, hf⟩ := List.map_eq_cons_iff.1 hf
  have hr := List.map_eq_nil_iff.1 hf
  subst hr
  simp only [Prod.mk.injEq] at e0 e1 e2 e3
  obtain ⟨rfl, o0⟩ := e0
  obtain ⟨rfl, o1⟩ := e1
  obtain ⟨rfl, o2⟩ := e2
  obtain ⟨rfl, o3⟩ := e3
  have hfs : fs = #[f0, f1, f2, f3] := by cases fs; simp_all
  subst hfs
  rw [hc] at hl
  match xs, hlen, cs, hl with
  | [y0, y1, y2, y3], _, [v0, v1, v2, v3], _ =>
    have g0 := hg 0 f0 rfl
    have g1 := hg 1 f1 rfl
    have g2 := hg 2 f2 rfl
    have g3 := hg 3 f3 rfl
    simp [o0, o1, o2, o3, c0, c1, c2, c3] at g0 g1 g2 g3
    refine ⟨v0, v1, v2, v3, y0, y1, y2, y3, n, rfl, rfl, g0, g1, g2, g3, fun m hm => ?_⟩
    simp only [List.map_cons, List.map_nil, DataW.weights, hu, DataW.weightsEach, List.mem_append, List.not_mem_nil, or_false]
    exact hm
end

end Go.Proofs.Ytmndgoapkmhglab

namespace Go.Proofs.Ytmndgoapkmhglab

/-- a token is the bytes that stand at its place. -/
theorem tk_sub : ∀ n k (l : List UInt8), l.length = n → ∀ t ∈ tk k l, k ≤ t.pos ∧ ∀ j (hj : j < t.l.length), l[t.pos - k + j]? = some t.l[j] := by
  intro n
  induction n using Nat.strongRecOn with
  | _ n ih =>
    intro k l hn t ht
    cases l with
    | nil => rw [tk_nil] at ht; simp at ht
    | cons c r =>
      simp only [List.length_cons] at hn
      by_cases h0 : cls c.toNat = 0
      · rw [tk_blank h0] at ht
        obtain ⟨h1, h2⟩ := ih r.length (by omega) (k + 1) r rfl t ht
        refine ⟨by omega, fun j hj => ?_⟩
        rw [show t.pos - k + j = (t.pos - (k + 1) + j) + 1 by omega, List.getElem?_cons_succ]
        exact h2 j hj
      · by_cases h12 : cls c.toNat = 1 ∨ cls c.toNat = 2
        · rw [tk_word h12] at ht
          have hl := take_drop_len (W (cls c.toNat)) r
          rcases List.mem_cons.1 ht with rfl | ht
          · refine ⟨Nat.le_refl _, fun j hj => ?_⟩
            have e : (tokW k (c :: r.takeWhile (W (cls c.toNat))) (cls c.toNat)).l = c :: r.takeWhile (W (cls c.toNat)) := tokW_l _ _ _
            simp only [e] at hj ⊢
            show (c :: r)[k - k + j]? = _
            rw [Nat.sub_self, Nat.zero_add, ← List.getElem?_eq_getElem hj]
            cases j with
            | zero => rfl
            | succ j =>
              rw [List.getElem?_cons_succ, List.getElem?_cons_succ]
              simp at hj
              have e2 := congrArg (fun l => l[j]?) (List.takeWhile_append_dropWhile (p := W (cls c.toNat)) (l := r))
              rw [← e2, List.getElem?_append_left hj]
          · obtain ⟨h1, h2⟩ := ih _ (by omega) _ _ rfl t ht
            refine ⟨by omega, fun j hj => ?_⟩
            have h3 := h2 j hj
            rw [← takeWhile_drop, List.getElem?_drop] at h3
            rw [← h3, show t.pos - k + j = ((r.takeWhile (W (cls c.toNat))).length + (t.pos - (k + 1 + (r.takeWhile (W (cls c.toNat))).length) + j)) + 1 by omega, List.getElem?_cons_succ]
        · rw [tk_one (by omega)] at ht
          rcases List.mem_cons.1 ht with rfl | ht
          · refine ⟨Nat.le_refl _, fun j hj => ?_⟩
            have e : (tokW k [c] (cls c.toNat)).l = [c] := tokW_l _ _ _
            simp only [e] at hj ⊢
            simp at hj
            subst hj
            show (c :: r)[k - k + 0]? = _
            rw [Nat.sub_self]; rfl
          · obtain ⟨h1, h2⟩ := ih r.length (by omega) (k + 1) r rfl t ht
            refine ⟨by omega, fun j hj => ?_⟩
            rw [show t.pos - k + j = (t.pos - (k + 1) + j) + 1 by omega, List.getElem?_cons_succ]
            exact h2 j hj

theorem toks_sub (s : ByteArray) (i : Nat) (h : (tkAt (toks s) i).kind ≠ 0) (j : Nat) (hj : j < (tkAt (toks s) i).l.length) : byt s ((tkAt (toks s) i).pos + j) = ((tkAt (toks s) i).l[j]).toNat := by
  have hi : i < (tk 0 s.data.toList).length := by
    rcases Nat.lt_or_ge i (tk 0 s.data.toList).length with hi | hi
    · exact hi
    · exfalso
      rw [toks_list] at h
      by_cases e : i = (tk 0 s.data.toList).length
      · rw [e, tkAt_mid] at h; exact h rfl
      · unfold tkAt at h
        rw [List.getD_eq_getElem?_getD, List.getElem?_eq_none (by simp; omega)] at h
        exact h rfl
  have hm : tkAt (toks s) i ∈ tk 0 s.data.toList := by rw [toks_list, tkAt_left hi]; exact tkAt_mem hi
  generalize tkAt (toks s) i = t at hm hj ⊢
  have := (tk_sub _ 0 s.data.toList rfl t hm).2 j hj
  rw [Nat.sub_zero] at this
  unfold byt
  rw [List.getD_eq_getElem?_getD, this]
  rfl

theorem val_last (l : List UInt8) (hd : ∀ c ∈ l, 48 ≤ c.toNat ∧ c.toNat ≤ 57) (hne : l ≠ []) (h : valOf l < 4) : ∃ (r : List UInt8) (d : UInt8), l = r ++ [d] ∧ d.toNat - 48 = valOf l ∧ valOf r = 0 := by
  rcases List.eq_nil_or_concat l with rfl | ⟨r, d, rfl⟩
  · exact absurd rfl hne
  · rw [List.concat_eq_append] at *
    rw [valOf_snoc] at h ⊢
    exact ⟨r, d, rfl, by omega, by omega⟩

theorem place_last {s : ByteArray} {k : Nat} (h3 : (tkAt (toks s) k).kind = 3) (h4 : valOf (lAt (toks s) k) < 4) : byt s (lastD (tkAt (toks s) k)) - 48 = valOf (lAt (toks s) k) := by
  obtain ⟨_, hd, hne⟩ := fine_dig (toks_fine s k (by omega)) h3
  obtain ⟨r, d, he, hv, _⟩ := val_last _ hd hne h4
  have hlen : (tkAt (toks s) k).l.length = r.length + 1 := by rw [he]; simp
  have hb := toks_sub s k (by omega) r.length (by omega)
  unfold lastD
  rw [hlen, show (tkAt (toks s) k).pos + (r.length + 1) - 1 = (tkAt (toks s) k).pos + r.length by omega, hb, ← hv]
  congr 2
  simp [he]

/-- the places of a right text's equations. -/
theorem seats_text {s : ByteArray} {L : List Dl} (h : Spell (toks s) L 0) : seatsF s = (eqL L).map (placeD (toks s)) := by
  unfold seatsF
  rw [marks_text h, List.map_map]
  refine List.map_congr_left fun x hx => ?_
  have hm := List.mem_filter.1 hx
  have hk : x.kind ≠ 0 := by simpa using hm.2
  rcases (spell_mem L 0 h x hm.1).2.2 with ⟨h0, _⟩ | ⟨_, _, _, h4, _⟩
  · exact absurd h0 hk
  · exact place_last h4.1 h4.2

end Go.Proofs.Ytmndgoapkmhglab

/- what a program's Run must hand over. -/
namespace Go.Proofs.Ytmndgoapkmhglab
open Go.RowKit

/-- the error of Run. -/
def runE (s : ByteArray) (sc : List OpF) : Nat := if (textF s).1 ≠ 0 then (textF s).1 else if playK (seatsF s) sc then 0 else 11

/-- events as cells. -/
def evCells (E : List EvF) (TV VV : Nat → Value) : List Value := (List.range E.length).flatMap fun i => [.int .i64 ((E[i]?.map EvF.k).getD 0), .int .i64 ((E[i]?.map EvF.a).getD 0), .int .i64 ((E[i]?.map EvF.did).getD 0), .int .i64 ((E[i]?.map EvF.n).getD 0), TV i, VV i]

/-- events that came out, each list its owner's. -/
structure EvsOwn (B : Nat) (w : World) (v : Value) (E : List EvF) (TV VV : Nat → Value) : Prop where
  row : w.ownsRow B 41 6 v E.length (evCells E TV VV)
  took : ∀ i, (h : i < E.length) → w.ownsRow B 3 1 (TV i) E[i].took.length (pCells E[i].took)
  vals : ∀ i, (h : i < E.length) → w.ownsRow B 3 1 (VV i) E[i].vals.length (iCells E[i].vals)
  apT : ∀ i j, i < E.length → j < E.length → i ≠ j → ∀ b, (TV i).ownBlock = some b → (TV j).ownBlock ≠ some b
  apV : ∀ i j, i < E.length → j < E.length → i ≠ j → ∀ b, (VV i).ownBlock = some b → (VV j).ownBlock ≠ some b
  apTV : ∀ i j, i < E.length → j < E.length → ∀ b, (TV i).ownBlock = some b → (VV j).ownBlock ≠ some b
  neT : ∀ i, i < E.length → ∀ b, (TV i).ownBlock = some b → v.ownBlock ≠ some b
  neV : ∀ i, i < E.length → ∀ b, (VV i).ownBlock = some b → v.ownBlock ≠ some b

/-- the events of a right text. -/
def evsR (ts : List Tk) (L : List Dl) (ins : List (List Int)) (sc : List OpF) : List EvF := (runG (netR ts L) (valsR ts L ins) [] sc).map Prod.snd

/-- what a program's Run answers. -/
def RunQ (s : ByteArray) (ins : List (List Int)) (sc : List OpF) (B : Nat) (w' : World) (v : Value) : Prop :=
  if runE s sc = 0 then ∀ L, RGood s L → Right (toks s) L → ∃ TV VV, EvsOwn B w' v (evsR (toks s) L ins sc) TV VV else ∃ a cap, v = .slice a 0 cap

theorem evsR_len (ts : List Tk) (L : List Dl) (ins : List (List Int)) (sc : List OpF) : (evsR ts L ins sc).length = sc.length := by
  unfold evsR
  obtain ⟨S, h1, h2, _⟩ := run_ext (netR ts L) (valsR ts L ins) sc []
  rw [List.length_map, h1, List.nil_append, ← h2, List.length_map]

end Go.Proofs.Ytmndgoapkmhglab

/- fill: plain parts, and the walk. -/
namespace Go.Proofs.Ytmndgoapkmhglab
open Go.RowKit
attribute [local go_sem ↓] Go.wp_at_zero Go.wp_at_succ

theorem val_congr {ds : List Dc} {ins : List (List Int)} {n : Nd} {k : Nat} {X X' Y Y' : Nat → Int} (h1 : ∀ c ∈ needs n, X c = X' c) (h2 : n.kind = 2 → kindAt ds n.decl ≠ 0 → X (rootAt ds n.decl) = X' (rootAt ds n.decl)) (h3 : n.kind = 5 → k ≠ 0 → Y n.b = Y' n.b) :
    valF ds ins n k X Y = valF ds ins n k X' Y' := by
  unfold valF
  by_cases k2 : n.kind = 2
  · rw [if_pos k2, if_pos k2]
    unfold nameF
    by_cases hk : kindAt ds n.decl = 0
    · rw [if_pos hk, if_pos hk]
    · rw [if_neg hk, if_neg hk, h2 k2 hk]
  rw [if_neg k2, if_neg k2]
  by_cases k3 : n.kind = 3
  · rw [if_pos k3, if_pos k3, h1 n.a (by simp [needs, k3])]
  rw [if_neg k3, if_neg k3]
  by_cases k4 : n.kind = 4
  · rw [if_pos k4, if_pos k4, h1 n.a (by simp [needs, k4]), h1 n.b (by simp [needs, k4]), h1 n.c (by simp [needs, k4])]
  rw [if_neg k4, if_neg k4]
  by_cases k5 : n.kind = 5
  · rw [if_pos k5, if_pos k5]
    by_cases hk : k = 0
    · rw [if_pos hk, if_pos hk, h1 n.a (by simp [needs, k5])]
    · rw [if_neg hk, if_neg hk, h3 k5 hk]
  rw [if_neg k5, if_neg k5]
  by_cases k6 : n.kind = 6
  · rw [if_pos k6, if_pos k6, h1 n.a (by simp [needs, k6]), h1 n.b (by simp [needs, k6])]
  rw [if_neg k6, if_neg k6]

/-- what has been worked out of the first j equations in their order, and of the next one from node m on. -/
structure DoneT (ds : List Dc) (ns : List Nd) (V : Nat → Int) (T : List Nat) (j : Nat) (X : Nat → Int) : Prop where
  all : ∀ t ∈ T.take j, ∀ d, ds[t]? = some d → ∀ i, d.root ≤ i → i < d.fin → dlAt ns i = false → X i = V i

theorem DoneT.set {ds : List Dc} {ns : List Nd} {V : Nat → Int} {T : List Nat} {j : Nat} {X : Nat → Int} (h : DoneT ds ns V T j X) (i : Nat) : DoneT ds ns V T j (fun c => if c = i then V i else X c) := by
  refine ⟨fun t ht d hd c h1 h2 h3 => ?_⟩
  by_cases e : c = i
  · simp [e]
  · simp only [if_neg e]; exact h.all t ht d hd c h1 h2 h3

/-- the value at a node that is not delayed, in an equation whose turn it is. -/
theorem turn_val {ds : List Dc} {ns : List Nd} {ins : List (List Int)} {NV : Nat → Nat → Int} {T : List Nat} (hM : Meant ds ns ins NV) (hO : OrdOk ds (markAll ds ns 0 ds noM) T) {k j t : Nat} {X Y : Nat → Int} (hD : DoneT ds ns (NV k) T j X)
    (hY : k ≠ 0 → ∀ c, c < ns.length → Y c = NV (k - 1) c) (hpb : ∀ n ∈ ns, n.b < ns.length) (ht : T[j]? = some t) {d : Dc} (hd : ds[t]? = some d) {i : Nat} (hi : i < ns.length) (h1 : d.root ≤ i) (h2 : i < d.fin)
    (hl : (ns[i]'hi).delayed = false) (hin : ∀ c, i < c → c < d.fin → dlAt ns c = false → X c = NV k c) : valF ds ins (ns[i]'hi) k X Y = NV k i := by
  have hn : ns[i]? = some (ns[i]'hi) := List.getElem?_eq_getElem hi
  obtain ⟨d', hd', hk⟩ := hO.eqn t (List.mem_of_getElem? ht)
  rw [hd] at hd'
  cases hd'
  rw [hM.val i _ hn k]
  refine val_congr (fun c hc => ?_) (fun k2 hq => ?_) (fun k5 h0 => hY h0 _ (hpb _ (List.getElem_mem hi)))
  · obtain ⟨g1, g2, g3⟩ := hM.kids t d hd hk i _ hn h1 h2 c hc
    exact hin c g1 g2 (by rw [g3]; exact hl)
  · have hm := hM.hang t d hd hk i _ hn h1 h2 k2 hl hq
    obtain ⟨dd1, dd2⟩ := hM.decl _ (List.getElem_mem hi) k2
    have hlt : (ns[i]'hi).decl.toNat < ds.length := by omega
    have hdb : ds[(ns[i]'hi).decl.toNat]? = some (ds[(ns[i]'hi).decl.toNat]'hlt) := List.getElem?_eq_getElem hlt
    have e1 : kindAt ds (ns[i]'hi).decl = (ds[(ns[i]'hi).decl.toNat]'hlt).kind := by unfold kindAt; rw [List.getD_eq_getElem?_getD, hdb]; rfl
    have e2 : rootAt ds (ns[i]'hi).decl = (ds[(ns[i]'hi).decl.toNat]'hlt).root := by unfold rootAt; rw [List.getD_eq_getElem?_getD, hdb]; rfl
    rw [e1] at hq
    rw [e2]
    have hmem := hO.topo j t ht _ hm
    obtain ⟨_, r2⟩ := hM.root _ _ hdb hq
    obtain ⟨s1, s2⟩ := hM.segs _ _ hdb hq
    exact hD.all _ hmem _ hdb _ (Nat.le_refl _) s1 r2

/-- the value at a delayed node, when the others are worked out. -/
theorem late_val {ds : List Dc} {ns : List Nd} {ins : List (List Int)} {NV : Nat → Nat → Int} (hM : Meant ds ns ins NV) {k : Nat} {X Y : Nat → Int}
    (hY : k ≠ 0 → ∀ c, c < ns.length → Y c = NV (k - 1) c) (hpb : ∀ n ∈ ns, n.b < ns.length) {i : Nat} (hi : i < ns.length) (hp : ∀ c, c < ns.length → dlAt ns c = false → X c = NV k c) (hq : ∀ c, i < c → c < ns.length → X c = NV k c) : valF ds ins (ns[i]'hi) k X Y = NV k i := by
  have hn : ns[i]? = some (ns[i]'hi) := List.getElem?_eq_getElem hi
  obtain ⟨a, d, hd, hk, h1, h2⟩ := hM.cover i hi
  rw [hM.val i _ hn k]
  refine val_congr (fun c hc => ?_) (fun k2 hz => ?_) (fun k5 h0 => hY h0 _ (hpb _ (List.getElem_mem hi)))
  · obtain ⟨g1, g2, g3⟩ := hM.kids a d hd hk i _ hn h1 h2 c hc
    have := (hM.segs a d hd hk).2
    exact hq c g1 (by omega)
  · obtain ⟨dd1, dd2⟩ := hM.decl _ (List.getElem_mem hi) k2
    have hlt : (ns[i]'hi).decl.toNat < ds.length := by omega
    have hdb : ds[(ns[i]'hi).decl.toNat]? = some (ds[(ns[i]'hi).decl.toNat]'hlt) := List.getElem?_eq_getElem hlt
    have e1 : kindAt ds (ns[i]'hi).decl = (ds[(ns[i]'hi).decl.toNat]'hlt).kind := by unfold kindAt; rw [List.getD_eq_getElem?_getD, hdb]; rfl
    have e2 : rootAt ds (ns[i]'hi).decl = (ds[(ns[i]'hi).decl.toNat]'hlt).root := by unfold rootAt; rw [List.getD_eq_getElem?_getD, hdb]; rfl
    rw [e1] at hz
    rw [e2]
    obtain ⟨r1, r2⟩ := hM.root _ _ hdb hz
    exact hp _ r1 r2

end Go.Proofs.Ytmndgoapkmhglab

/- Plain mathematics: what the program keeps of each link and place while a script is played. -/
namespace Go.Proofs.Ytmndgoapkmhglab
open Go.RowKit

/-- is the slot of a link full; is what was published last on it not taken yet? -/
def fullN (N : List LnF) (P : PastF) (l : Nat) : Bool := decide (cntF P (lnAt N l).dst 1 < tkF l P + lateN N l)
def untN (N : List LnF) (P : PastF) (l : Nat) : Bool := decide (tkF l P < cntF P (lnAt N l).src 2)
def comesN (N : List LnF) (P : PastF) (l : Nat) : Int := comesF (lnAt N l).src P 0
def knownN (P : PastF) (l : Nat) : Int := knownF l P 0
def holdsN (P : PastF) (pl : Int) : Bool := decide (cntF P pl 2 < cntF P pl 1)
/-- when a place has taken what has come. -/
def fullT (N : List LnF) (P : PastF) (a : OpF) (l : Nat) : Bool := fullN N P l || canF N P a l
def untT (N : List LnF) (P : PastF) (a : OpF) (l : Nat) : Bool := untN N P l && !canF N P a l
def knownT (N : List LnF) (P : PastF) (a : OpF) (l : Nat) : Int := if canF N P a l then a.a + a.b else knownN P l

theorem wake_k (N : List LnF) (V : Int → Nat → List Int) (P : PastF) (a : OpF) : (wakeF N V P a).k = a.k ∧ (wakeF N V P a).a = a.a ∧ (wakeF N V P a).took = tookF N P a := ⟨rfl, rfl, rfl⟩

section
variable {N : List LnF} {P : PastF} {a : OpF} (hO : PastOk N P a.a) (hI : RunInv N P)
include hO hI

theorem can_same {l : Nat} (hl : l < N.length) : canF N P a l = (decide ((lnAt N l).dst = a.k) && !fullN N P l && untN N P l && decide (comesN N P l ≤ a.a)) := by
  have hs := hI.slot l hl
  rw [Bool.eq_iff_iff, can_iff hO hI hl]
  unfold fullN untN comesN
  simp only [Bool.and_eq_true, decide_eq_true_eq, Bool.not_eq_true', decide_eq_false_iff_not]
  constructor
  · rintro ⟨h1, h2, h3, h4⟩
    rw [h1]
    exact ⟨⟨⟨rfl, by omega⟩, h2⟩, h3⟩
  · rintro ⟨⟨⟨h1, h2⟩, h3⟩, h4⟩
    rw [h1] at hs h2
    exact ⟨h1, h3, h4, by omega⟩

theorem ready_same : readyF N P a = (!holdsN P a.k && (List.range N.length).all fun l => !decide ((lnAt N l).dst = a.k) || fullT N P a l) := by
  have ht := hI.turn a.k
  rw [Bool.eq_iff_iff, ready_iff hO hI, Bool.and_eq_true, List.all_eq_true]
  unfold holdsN
  rw [Bool.not_eq_true', decide_eq_false_iff_not]
  refine and_congr (by omega) ⟨fun h l hl => ?_, fun h l hl hd => ?_⟩
  · rw [List.mem_range] at hl
    by_cases hd : (lnAt N l).dst = a.k
    · have h1 := h l hl hd
      have hs := hI.slot l hl
      unfold fullT fullN
      rw [hd] at hs ⊢
      simp only [decide_true, Bool.not_true, Bool.false_or]
      by_cases hc : canF N P a l = true
      · rw [hc, Bool.or_true]
      · rw [if_neg hc] at h1
        rw [Bool.or_eq_true, decide_eq_true_eq]
        exact .inl (by omega)
    · simp [hd]
  · have h1 := h l (List.mem_range.2 hl)
    have hs := hI.slot l hl
    unfold fullT fullN at h1
    rw [hd] at hs h1
    simp only [decide_true, Bool.not_true, Bool.false_or, Bool.or_eq_true, decide_eq_true_eq] at h1
    by_cases hc : canF N P a l = true
    · have := ((can_iff hO hI hl).1 hc).2.2.2
      rw [if_pos hc]; omega
    · rw [if_neg hc]
      rcases h1 with h1 | h1
      · omega
      · exact absurd h1 hc

theorem free_same (hA : Apart N) (h0 : 0 ≤ a.a) : freeF N P a = (holdsN P a.k && (List.range N.length).all fun l => !decide ((lnAt N l).src = a.k) || (!untT N P a l && decide (knownT N P a l ≤ a.a))) := by
  have ht := hI.turn a.k
  rw [Bool.eq_iff_iff, free_iff hO hI, Bool.and_eq_true, List.all_eq_true]
  unfold holdsN
  rw [decide_eq_true_iff]
  have hcn : ∀ l, l < N.length → (lnAt N l).src = a.k → canF N P a l = false := fun l hl hd => by
    rw [Bool.eq_false_iff]
    intro hc
    exact hA l hl (hd.trans ((can_iff hO hI hl).1 hc).1.symm)
  refine and_congr (by omega) ⟨fun h l hl => ?_, fun h l hl hd => ?_⟩
  · rw [List.mem_range] at hl
    by_cases hd : (lnAt N l).src = a.k
    · obtain ⟨h1, h2⟩ := h l hl hd
      unfold untT untN knownT knownN
      rw [hcn l hl hd, hd]
      simp only [decide_true, Bool.not_true, Bool.false_or, Bool.not_false, Bool.and_true, Bool.and_eq_true, Bool.not_eq_true', decide_eq_false_iff_not, decide_eq_true_eq, Bool.false_eq_true, if_false]
      refine ⟨by omega, ?_⟩
      rcases h2 with h2 | h2
      · exact h2
      · rw [known_zero l P (fun x hx => (hO.took x hx).1) h2]; exact h0
    · simp [hd]
  · have h1 := h l (List.mem_range.2 hl)
    have hs := hI.sent l hl
    unfold untT untN knownT knownN at h1
    rw [hcn l hl hd, hd] at h1
    simp only [decide_true, Bool.not_true, Bool.false_or, Bool.not_false, Bool.and_true, Bool.and_eq_true, Bool.not_eq_true', decide_eq_false_iff_not, decide_eq_true_eq, Bool.false_eq_true, if_false] at h1
    rw [hd] at hs
    exact ⟨by omega, .inl h1.2⟩

variable (V : Int → Nat → List Int)
theorem full_next {l : Nat} (hl : l < N.length) : fullN N (P ++ [(a, wakeF N V P a)]) l = if (wakeF N V P a).did = 1 ∧ (lnAt N l).dst = a.k then false else fullT N P a l := by
  have hs := hI.slot l hl
  unfold fullN
  rw [cnt_next, tk_next N V P a hl]
  by_cases h : a.k = (lnAt N l).dst ∧ (wakeF N V P a).did = 1
  · rw [if_pos h, show (if (wakeF N V P a).did = 1 ∧ (lnAt N l).dst = a.k then false else fullT N P a l) = false from if_pos ⟨h.2, h.1.symm⟩, decide_eq_false_iff_not]
    have hr : readyF N P a = true := by
      rcases did_cases N V P a with ⟨hr, _⟩ | ⟨_, _, hd⟩ | ⟨_, _, hd⟩
      · exact hr
      · rw [h.2] at hd; cases hd
      · rw [h.2] at hd; cases hd
    have := ((ready_iff hO hI).1 hr).2 l hl h.1.symm
    rw [← h.1]; omega
  · rw [if_neg h, show (if (wakeF N V P a).did = 1 ∧ (lnAt N l).dst = a.k then false else fullT N P a l) = fullT N P a l from if_neg (fun e => h ⟨e.2.symm, e.1⟩)]
    unfold fullT fullN
    by_cases hc : canF N P a l = true
    · obtain ⟨h1, _, _, h4⟩ := (can_iff hO hI hl).1 hc
      rw [if_pos hc, hc, Bool.or_true, decide_eq_true_iff, h1]; omega
    · rw [if_neg hc]
      rw [Bool.not_eq_true] at hc
      rw [hc, Bool.or_false, Nat.add_zero, Nat.add_zero]

omit hO hI in
theorem comes_next (l : Nat) : comesN N (P ++ [(a, wakeF N V P a)]) l = if (wakeF N V P a).did = 2 ∧ (lnAt N l).src = a.k then a.a + a.c else comesN N P l := by
  unfold comesN
  rw [comesF_app]
  simp only [comesF]
  have e : isD (lnAt N l).src 2 (a, wakeF N V P a) = decide ((wakeF N V P a).did = 2 ∧ (lnAt N l).src = a.k) := by
    unfold isD
    show (decide (a.k = (lnAt N l).src) && decide ((wakeF N V P a).did = 2)) = _
    rw [Bool.and_comm, ← Bool.decide_and]
    congr 1
    rw [eq_comm (a := a.k)]
  rw [e]
  simp only [decide_eq_true_eq]
  rfl
omit hO hI in
theorem known_next {l : Nat} (hl : l < N.length) : knownN (P ++ [(a, wakeF N V P a)]) l = knownT N P a l := by
  unfold knownN knownT
  rw [knownF_app]
  simp only [knownF]
  have e : (l ∈ (wakeF N V P a).took) ↔ canF N P a l = true := by
    show l ∈ tookF N P a ↔ _
    rw [took_mem]
    exact ⟨fun h => h.2, fun h => ⟨hl, h⟩⟩
  by_cases hc : canF N P a l = true
  · rw [if_pos (e.2 hc), if_pos hc]; rfl
  · rw [if_neg (fun h => hc (e.1 h)), if_neg hc]; rfl
theorem unt_next (hA : Apart N) {l : Nat} (hl : l < N.length) : untN N (P ++ [(a, wakeF N V P a)]) l = if (wakeF N V P a).did = 2 ∧ (lnAt N l).src = a.k then true else untT N P a l := by
  have hs := hI.sent l hl
  unfold untN
  rw [cnt_next, tk_next N V P a hl]
  by_cases h : a.k = (lnAt N l).src ∧ (wakeF N V P a).did = 2
  · rw [if_pos h, show (if (wakeF N V P a).did = 2 ∧ (lnAt N l).src = a.k then true else untT N P a l) = true from if_pos ⟨h.2, h.1.symm⟩, decide_eq_true_iff]
    have hc : ¬ canF N P a l = true := fun hc => hA l hl (h.1.symm.trans ((can_iff hO hI hl).1 hc).1.symm)
    rw [if_neg hc]; omega
  · rw [if_neg h, show (if (wakeF N V P a).did = 2 ∧ (lnAt N l).src = a.k then true else untT N P a l) = untT N P a l from if_neg (fun e => h ⟨e.2.symm, e.1⟩)]
    unfold untT untN
    by_cases hc : canF N P a l = true
    · obtain ⟨_, h2, _, _⟩ := (can_iff hO hI hl).1 hc
      rw [if_pos hc, hc, Bool.not_true, Bool.and_false, decide_eq_false_iff_not]; omega
    · rw [if_neg hc]
      rw [Bool.not_eq_true] at hc
      rw [hc, Bool.not_false, Bool.and_true, Nat.add_zero, Nat.add_zero]

omit hO in
theorem holds_next (pl : Int) : holdsN (P ++ [(a, wakeF N V P a)]) pl = if pl = a.k ∧ (wakeF N V P a).did = 1 then true else if pl = a.k ∧ (wakeF N V P a).did = 2 then false else holdsN P pl := by
  have ht := hI.turn pl
  unfold holdsN
  rw [cnt_next, cnt_next]
  simp only [eq_comm (a := pl)]
  by_cases h1 : a.k = pl ∧ (wakeF N V P a).did = 1
  · have h2 : ¬ (a.k = pl ∧ (wakeF N V P a).did = 2) := fun e => by rw [h1.2] at e; exact absurd e.2 (by decide)
    simp only [if_pos h1, if_neg h2, decide_eq_true_eq]; omega
  · by_cases h2 : a.k = pl ∧ (wakeF N V P a).did = 2
    · simp only [if_neg h1, if_pos h2, decide_eq_false_iff_not]; omega
    · simp only [if_neg h1, if_neg h2, Nat.add_zero]
end

theorem full_start (N : List LnF) (l : Nat) : fullN N [] l = (lnAt N l).late := by
  unfold fullN lateN
  cases (lnAt N l).late <;> simp [cntF, tkF]

end Go.Proofs.Ytmndgoapkmhglab
