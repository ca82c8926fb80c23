import Derived.Test.Ytmndgoapkmhglabc05Bytes
import Derived.Test.Ytmndgoapkmhglabc10Dec
import Derived.Test.Ytmndgoapkmhglabc13RefI
import Derived.Test.Ytmndgoapkmhglabc24OrdB
import Derived.Test.Ytmndgoapkmhglabc32OpenL
import Derived.Test.Ytmndgoapkmhglabc33AcA
import Derived.Test.Ytmndgoapkmhglabc35PlyL
import Derived.Test.Ytmndgoapkmhglabc40SvB
namespace Go.Proofs.Ytmndgoapkmhglab
open Go.RowKit
attribute [local go_sem ↓] Go.wp_at_zero Go.wp_at_succ
theorem val_congr {ds : List Dc} {ins : List (List Int)} {n : Nd} {k : Nat} {X X' Y Y' : Nat → Int} (h1 : ∀ c ∈ needs n, X c = X' c) (h2 : n.kind = 2 → kindAt ds n.decl ≠ 0 → X (rootAt ds n.decl) = X' (rootAt ds n.decl)) (h3 : n.kind = 5 → k ≠ 0 → Y n.b = Y' n.b) :
    valF ds ins n k X Y = valF ds ins n k X' Y' := by
  unfold valF
  by_cases k2 : n.kind = 2
  · rw [if_pos k2, if_pos k2]
    unfold nameF
    by_cases hk : kindAt ds n.decl = 0
    · rw [if_pos hk, if_pos hk]
    · rw [if_neg hk, if_neg hk, h2 k2 hk]
  rw [if_neg k2, if_neg k2]
  by_cases k3 : n.kind = 3
  · rw [if_pos k3, if_pos k3, h1 n.a (by simp [needs, k3])]
  rw [if_neg k3, if_neg k3]
  by_cases k4 : n.kind = 4
  · rw [if_pos k4, if_pos k4, h1 n.a (by simp [needs, k4]), h1 n.b (by simp [needs, k4]), h1 n.c (by simp [needs, k4])]
  rw [if_neg k4, if_neg k4]
  by_cases k5 : n.kind = 5
  · rw [if_pos k5, if_pos k5]
    by_cases hk : k = 0
    · rw [if_pos hk, if_pos hk, h1 n.a (by simp [needs, k5])]
    · rw [if_neg hk, if_neg hk, h3 k5 hk]
  rw [if_neg k5, if_neg k5]
  by_cases k6 : n.kind = 6
  · rw [if_pos k6, if_pos k6, h1 n.a (by simp [needs, k6]), h1 n.b (by simp [needs, k6])]
  rw [if_neg k6, if_neg k6]
structure DoneT (ds : List Dc) (ns : List Nd) (V : Nat → Int) (T : List Nat) (j : Nat) (X : Nat → Int) : Prop where
  all : ∀ t ∈ T.take j, ∀ d, ds[t]? = some d → ∀ i, d.root ≤ i → i < d.fin → dlAt ns i = false → X i = V i
theorem DoneT.set {ds : List Dc} {ns : List Nd} {V : Nat → Int} {T : List Nat} {j : Nat} {X : Nat → Int} (h : DoneT ds ns V T j X) (i : Nat) : DoneT ds ns V T j (fun c => if c = i then V i else X c) := by
  refine ⟨fun t ht d hd c h1 h2 h3 => ?_⟩
  by_cases e : c = i
  · simp [e]
  · simp only [if_neg e]; exact h.all t ht d hd c h1 h2 h3
theorem turn_val {ds : List Dc} {ns : List Nd} {ins : List (List Int)} {NV : Nat → Nat → Int} {T : List Nat} (hM : Meant ds ns ins NV) (hO : OrdOk ds (markAll ds ns 0 ds noM) T) {k j t : Nat} {X Y : Nat → Int} (hD : DoneT ds ns (NV k) T j X)
    (hY : k ≠ 0 → ∀ c, c < ns.length → Y c = NV (k - 1) c) (hpb : ∀ n ∈ ns, n.b < ns.length) (ht : T[j]? = some t) {d : Dc} (hd : ds[t]? = some d) {i : Nat} (hi : i < ns.length) (h1 : d.root ≤ i) (h2 : i < d.fin)
    (hl : (ns[i]'hi).delayed = false) (hin : ∀ c, i < c → c < d.fin → dlAt ns c = false → X c = NV k c) : valF ds ins (ns[i]'hi) k X Y = NV k i := by
  have hn : ns[i]? = some (ns[i]'hi) := List.getElem?_eq_getElem hi
  obtain ⟨d', hd', hk⟩ := hO.eqn t (List.mem_of_getElem? ht)
  rw [hd] at hd'
  cases hd'
  rw [hM.val i _ hn k]
  refine val_congr (fun c hc => ?_) (fun k2 hq => ?_) (fun k5 h0 => hY h0 _ (hpb _ (List.getElem_mem hi)))
  · obtain ⟨g1, g2, g3⟩ := hM.kids t d hd hk i _ hn h1 h2 c hc
    exact hin c g1 g2 (by rw [g3]; exact hl)
  · have hm := hM.hang t d hd hk i _ hn h1 h2 k2 hl hq
    obtain ⟨dd1, dd2⟩ := hM.decl _ (List.getElem_mem hi) k2
    have hlt : (ns[i]'hi).decl.toNat < ds.length := by omega
    have hdb : ds[(ns[i]'hi).decl.toNat]? = some (ds[(ns[i]'hi).decl.toNat]'hlt) := List.getElem?_eq_getElem hlt
    have e1 : kindAt ds (ns[i]'hi).decl = (ds[(ns[i]'hi).decl.toNat]'hlt).kind := by unfold kindAt; rw [List.getD_eq_getElem?_getD, hdb]; rfl
    have e2 : rootAt ds (ns[i]'hi).decl = (ds[(ns[i]'hi).decl.toNat]'hlt).root := by unfold rootAt; rw [List.getD_eq_getElem?_getD, hdb]; rfl
    rw [e1] at hq
    rw [e2]
    have hmem := hO.topo j t ht _ hm
    obtain ⟨_, r2⟩ := hM.root _ _ hdb hq
    obtain ⟨s1, s2⟩ := hM.segs _ _ hdb hq
    exact hD.all _ hmem _ hdb _ (Nat.le_refl _) s1 r2
theorem late_val {ds : List Dc} {ns : List Nd} {ins : List (List Int)} {NV : Nat → Nat → Int} (hM : Meant ds ns ins NV) {k : Nat} {X Y : Nat → Int}
    (hY : k ≠ 0 → ∀ c, c < ns.length → Y c = NV (k - 1) c) (hpb : ∀ n ∈ ns, n.b < ns.length) {i : Nat} (hi : i < ns.length) (hp : ∀ c, c < ns.length → dlAt ns c = false → X c = NV k c) (hq : ∀ c, i < c → c < ns.length → X c = NV k c) : valF ds ins (ns[i]'hi) k X Y = NV k i := by
  have hn : ns[i]? = some (ns[i]'hi) := List.getElem?_eq_getElem hi
  obtain ⟨a, d, hd, hk, h1, h2⟩ := hM.cover i hi
  rw [hM.val i _ hn k]
  refine val_congr (fun c hc => ?_) (fun k2 hz => ?_) (fun k5 h0 => hY h0 _ (hpb _ (List.getElem_mem hi)))
  · obtain ⟨g1, g2, g3⟩ := hM.kids a d hd hk i _ hn h1 h2 c hc
    have := (hM.segs a d hd hk).2
    exact hq c g1 (by omega)
  · obtain ⟨dd1, dd2⟩ := hM.decl _ (List.getElem_mem hi) k2
    have hlt : (ns[i]'hi).decl.toNat < ds.length := by omega
    have hdb : ds[(ns[i]'hi).decl.toNat]? = some (ds[(ns[i]'hi).decl.toNat]'hlt) := List.getElem?_eq_getElem hlt
    have e1 : kindAt ds (ns[i]'hi).decl = (ds[(ns[i]'hi).decl.toNat]'hlt).kind := by unfold kindAt; rw [List.getD_eq_getElem?_getD, hdb]; rfl
    have e2 : rootAt ds (ns[i]'hi).decl = (ds[(ns[i]'hi).decl.toNat]'hlt).root := by unfold rootAt; rw [List.getD_eq_getElem?_getD, hdb]; rfl
    rw [e1] at hz
    rw [e2]
    obtain ⟨r1, r2⟩ := hM.root _ _ hdb hz
    exact hp _ r1 r2
theorem ready_any (w : World) (g r n ch cd : Nat) (H D : Nat → Bool) (hg : w.rowIs g 4 n (fun j => .bool (H j))) (hr : w.rowIs r 4 n (fun j => .bool (D j))) (hn : n ≤ 1501) :
    Calls Try.prog 98 #[.slice (some ⟨g, 0, none⟩) n ch, .slice (some ⟨r, 0, none⟩) n cd] w fun e w' => e = .returned (.bool (decide (∀ j, j < n → H j = true → D j = true))) ∧ w = w' := by
  go_enter Try.func98, Try.ntmps98
  go_wp2
  go_loopw [9] (fun vi wr => ∃ i : Nat, i ≤ n ∧ vi = .int .i64 i ∧ w = wr ∧ ∀ j, j < i → H j = true → D j = true) (fun vi _ => n - (intOf vi).toNat)
  case atStart => exact ⟨0, Nat.zero_le _, rfl, rfl, fun j hj => by omega⟩
  case round =>
    obtain ⟨i, hi, rfl, rfl, hall⟩ := hrel
    by_cases hlt : i < n
    · have x1 := hg.cell hlt
      have x2 := hr.cell hlt
      have j1 : (0 : Int) ≤ (i : Int) := by omega
      have j2 : (i : Int) < (n : Int) := by omega
      have HALL := hide hall
      clear hall
      by_cases hh : H i = true
      · by_cases hd : D i = true
        · go_wp2
          go_roundw
          case rel => exact ⟨i + 1, by omega, by go_num, by first | rfl | trivial, fun j hj h => by rcases Nat.lt_succ_iff_lt_or_eq.1 hj with h' | rfl; exact HALL.out j h' h; exact hd⟩
          case measure => simp [intOf]; omega
        · have hd' : D i = false := by simpa using hd
          have HF : Hid (decide (∀ j, j < n → H j = true → D j = true) = false) := hide (by rw [decide_eq_false_iff_not]; exact fun h => hd (h i hlt hh))
          clear hd
          go_wp2
          go_ret
          exact ⟨by rw [HF.out]; rfl, rfl⟩
      · have hh' : H i = false := by simpa using hh
        have HNO := hide hh
        clear hh
        go_wp2
        go_roundw
        case rel => exact ⟨i + 1, by omega, by go_num, by first | rfl | trivial, fun j hj h => by rcases Nat.lt_succ_iff_lt_or_eq.1 hj with h' | rfl; exact HALL.out j h' h; exact absurd h HNO.out⟩
        case measure => simp [intOf]; omega
    · have HF : Hid (decide (∀ j, j < n → H j = true → D j = true) = true) := hide (by rw [decide_eq_true_iff]; exact fun j hj => hall j (by omega))
      clear hall
      go_wp2
      go_ret
      exact ⟨by rw [HF.out]; rfl, rfl⟩
end Go.Proofs.Ytmndgoapkmhglab
namespace Go.Proofs.Ytmndgoapkmhglab
theorem tk_sub : ∀ n k (l : List UInt8), l.length = n → ∀ t ∈ tk k l, k ≤ t.pos ∧ ∀ j (hj : j < t.l.length), l[t.pos - k + j]? = some t.l[j] := by
  intro n
  induction n using Nat.strongRecOn with
  | _ n ih =>
    intro k l hn t ht
    cases l with
    | nil => rw [tk_nil] at ht; simp at ht
    | cons c r =>
      simp only [List.length_cons] at hn
      by_cases h0 : cls c.toNat = 0
      · rw [tk_blank h0] at ht
        obtain ⟨h1, h2⟩ := ih r.length (by omega) (k + 1) r rfl t ht
        refine ⟨by omega, fun j hj => ?_⟩
        rw [show t.pos - k + j = (t.pos - (k + 1) + j) + 1 by omega, List.getElem?_cons_succ]
        exact h2 j hj
      · by_cases h12 : cls c.toNat = 1 ∨ cls c.toNat = 2
        · rw [tk_word h12] at ht
          have hl := take_drop_len (W (cls c.toNat)) r
          rcases List.mem_cons.1 ht with rfl | ht
          · refine ⟨Nat.le_refl _, fun j hj => ?_⟩
            have e : (tokW k (c :: r.takeWhile (W (cls c.toNat))) (cls c.toNat)).l = c :: r.takeWhile (W (cls c.toNat)) := tokW_l _ _ _
            simp only [e] at hj ⊢
            show (c :: r)[k - k + j]? = _
            rw [Nat.sub_self, Nat.zero_add, ← List.getElem?_eq_getElem hj]
            cases j with
            | zero => rfl
            | succ j =>
              rw [List.getElem?_cons_succ, List.getElem?_cons_succ]
              simp at hj
              have e2 := congrArg (fun l => l[j]?) (List.takeWhile_append_dropWhile (p := W (cls c.toNat)) (l := r))
              rw [← e2, List.getElem?_append_left hj]
          · obtain ⟨h1, h2⟩ := ih _ (by omega) _ _ rfl t ht
            refine ⟨by omega, fun j hj => ?_⟩
            have h3 := h2 j hj
            rw [← takeWhile_drop, List.getElem?_drop] at h3
            rw [← h3, show t.pos - k + j = ((r.takeWhile (W (cls c.toNat))).length + (t.pos - (k + 1 + (r.takeWhile (W (cls c.toNat))).length) + j)) + 1 by omega, List.getElem?_cons_succ]
        · rw [tk_one (by omega)] at ht
          rcases List.mem_cons.1 ht with rfl | ht
          · refine ⟨Nat.le_refl _, fun j hj => ?_⟩
            have e : (tokW k [c] (cls c.toNat)).l = [c] := tokW_l _ _ _
            simp only [e] at hj ⊢
            simp at hj
            subst hj
            show (c :: r)[k - k + 0]? = _
            rw [Nat.sub_self]; rfl
          · obtain ⟨h1, h2⟩ := ih r.length (by omega) (k + 1) r rfl t ht
            refine ⟨by omega, fun j hj => ?_⟩
            rw [show t.pos - k + j = (t.pos - (k + 1) + j) + 1 by omega, List.getElem?_cons_succ]
            exact h2 j hj
theorem toks_sub (s : ByteArray) (i : Nat) (h : (tkAt (toks s) i).kind ≠ 0) (j : Nat) (hj : j < (tkAt (toks s) i).l.length) : byt s ((tkAt (toks s) i).pos + j) = ((tkAt (toks s) i).l[j]).toNat := by
  have hi : i < (tk 0 s.data.toList).length := by
    rcases Nat.lt_or_ge i (tk 0 s.data.toList).length with hi | hi
    · exact hi
    · exfalso
      rw [toks_list] at h
      by_cases e : i = (tk 0 s.data.toList).length
      · rw [e, tkAt_mid] at h; exact h rfl
      · unfold tkAt at h
        rw [List.getD_eq_getElem?_getD, List.getElem?_eq_none (by simp; omega)] at h
        exact h rfl
  have hm : tkAt (toks s) i ∈ tk 0 s.data.toList := by rw [toks_list, tkAt_left hi]; exact tkAt_mem hi
  generalize tkAt (toks s) i = t at hm hj ⊢
  have := (tk_sub _ 0 s.data.toList rfl t hm).2 j hj
  rw [Nat.sub_zero] at this
  unfold byt
  rw [List.getD_eq_getElem?_getD, this]
  rfl
theorem val_last (l : List UInt8) (hd : ∀ c ∈ l, 48 ≤ c.toNat ∧ c.toNat ≤ 57) (hne : l ≠ []) (h : valOf l < 4) : ∃ (r : List UInt8) (d : UInt8), l = r ++ [d] ∧ d.toNat - 48 = valOf l ∧ valOf r = 0 := by
  rcases List.eq_nil_or_concat l with rfl | ⟨r, d, rfl⟩
  · exact absurd rfl hne
  · rw [List.concat_eq_append] at *
    rw [valOf_snoc] at h ⊢
    exact ⟨r, d, rfl, by omega, by omega⟩
theorem place_last {s : ByteArray} {k : Nat} (h3 : (tkAt (toks s) k).kind = 3) (h4 : valOf (lAt (toks s) k) < 4) : byt s (lastD (tkAt (toks s) k)) - 48 = valOf (lAt (toks s) k) := by
  obtain ⟨_, hd, hne⟩ := fine_dig (toks_fine s k (by omega)) h3
  obtain ⟨r, d, he, hv, _⟩ := val_last _ hd hne h4
  have hlen : (tkAt (toks s) k).l.length = r.length + 1 := by rw [he]; simp
  have hb := toks_sub s k (by omega) r.length (by omega)
  unfold lastD
  rw [hlen, show (tkAt (toks s) k).pos + (r.length + 1) - 1 = (tkAt (toks s) k).pos + r.length by omega, hb, ← hv]
  congr 2
  simp [he]
theorem seats_text {s : ByteArray} {L : List Dl} (h : Spell (toks s) L 0) : seatsF s = (eqL L).map (placeD (toks s)) := by
  unfold seatsF
  rw [marks_text h, List.map_map]
  refine List.map_congr_left fun x hx => ?_
  have hm := List.mem_filter.1 hx
  have hk : x.kind ≠ 0 := by simpa using hm.2
  rcases (spell_mem L 0 h x hm.1).2.2 with ⟨h0, _⟩ | ⟨_, _, _, h4, _⟩
  · exact absurd h0 hk
  · exact place_last h4.1 h4.2
end Go.Proofs.Ytmndgoapkmhglab
namespace Go.Proofs.Ytmndgoapkmhglab
open Go.RowKit
def runE (s : ByteArray) (sc : List OpF) : Nat := if (textF s).1 ≠ 0 then (textF s).1 else if playK (seatsF s) sc then 0 else 11
def evCells (E : List EvF) (TV VV : Nat → Value) : List Value := (List.range E.length).flatMap fun i => [.int .i64 ((E[i]?.map EvF.k).getD 0), .int .i64 ((E[i]?.map EvF.a).getD 0), .int .i64 ((E[i]?.map EvF.did).getD 0), .int .i64 ((E[i]?.map EvF.n).getD 0), TV i, VV i]
structure EvsOwn (B : Nat) (w : World) (v : Value) (E : List EvF) (TV VV : Nat → Value) : Prop where
  row : w.ownsRow B 41 6 v E.length (evCells E TV VV)
  took : ∀ i, (h : i < E.length) → w.ownsRow B 3 1 (TV i) E[i].took.length (pCells E[i].took)
  vals : ∀ i, (h : i < E.length) → w.ownsRow B 3 1 (VV i) E[i].vals.length (iCells E[i].vals)
  apT : ∀ i j, i < E.length → j < E.length → i ≠ j → ∀ b, (TV i).ownBlock = some b → (TV j).ownBlock ≠ some b
  apV : ∀ i j, i < E.length → j < E.length → i ≠ j → ∀ b, (VV i).ownBlock = some b → (VV j).ownBlock ≠ some b
  apTV : ∀ i j, i < E.length → j < E.length → ∀ b, (TV i).ownBlock = some b → (VV j).ownBlock ≠ some b
  neT : ∀ i, i < E.length → ∀ b, (TV i).ownBlock = some b → v.ownBlock ≠ some b
  neV : ∀ i, i < E.length → ∀ b, (VV i).ownBlock = some b → v.ownBlock ≠ some b
def evsR (ts : List Tk) (L : List Dl) (ins : List (List Int)) (sc : List OpF) : List EvF := (runG (netR ts L) (valsR ts L ins) [] sc).map Prod.snd
def RunQ (s : ByteArray) (ins : List (List Int)) (sc : List OpF) (B : Nat) (w' : World) (v : Value) : Prop :=
  if runE s sc = 0 then ∀ L, RGood s L → Right (toks s) L → ∃ TV VV, EvsOwn B w' v (evsR (toks s) L ins sc) TV VV else ∃ a cap, v = .slice a 0 cap
def fullN (N : List LnF) (P : PastF) (l : Nat) : Bool := decide (cntF P (lnAt N l).dst 1 < tkF l P + lateN N l)
def untN (N : List LnF) (P : PastF) (l : Nat) : Bool := decide (tkF l P < cntF P (lnAt N l).src 2)
def comesN (N : List LnF) (P : PastF) (l : Nat) : Int := comesF (lnAt N l).src P 0
def knownN (P : PastF) (l : Nat) : Int := knownF l P 0
def holdsN (P : PastF) (pl : Int) : Bool := decide (cntF P pl 2 < cntF P pl 1)
def fullT (N : List LnF) (P : PastF) (a : OpF) (l : Nat) : Bool := fullN N P l || canF N P a l
def untT (N : List LnF) (P : PastF) (a : OpF) (l : Nat) : Bool := untN N P l && !canF N P a l
def knownT (N : List LnF) (P : PastF) (a : OpF) (l : Nat) : Int := if canF N P a l then a.a + a.b else knownN P l
section
variable {N : List LnF} {P : PastF} {a : OpF} (hO : PastOk N P a.a) (hI : RunInv N P)
include hO hI
theorem can_same {l : Nat} (hl : l < N.length) : canF N P a l = (decide ((lnAt N l).dst = a.k) && !fullN N P l && untN N P l && decide (comesN N P l ≤ a.a)) := by
  have hs := hI.slot l hl
  rw [Bool.eq_iff_iff, can_iff hO hI hl]
  unfold fullN untN comesN
  simp only [Bool.and_eq_true, decide_eq_true_eq, Bool.not_eq_true', decide_eq_false_iff_not]
  constructor
  · rintro ⟨h1, h2, h3, h4⟩
    rw [h1]
    exact ⟨⟨⟨rfl, by omega⟩, h2⟩, h3⟩
  · rintro ⟨⟨⟨h1, h2⟩, h3⟩, h4⟩
    rw [h1] at hs h2
    exact ⟨h1, h3, h4, by omega⟩
theorem ready_same : readyF N P a = (!holdsN P a.k && (List.range N.length).all fun l => !decide ((lnAt N l).dst = a.k) || fullT N P a l) := by
  have ht := hI.turn a.k
  rw [Bool.eq_iff_iff, ready_iff hO hI, Bool.and_eq_true, List.all_eq_true]
  unfold holdsN
  rw [Bool.not_eq_true', decide_eq_false_iff_not]
  refine and_congr (by omega) ⟨fun h l hl => ?_, fun h l hl hd => ?_⟩
  · rw [List.mem_range] at hl
    by_cases hd : (lnAt N l).dst = a.k
    · have h1 := h l hl hd
      have hs := hI.slot l hl
      unfold fullT fullN
      rw [hd] at hs ⊢
      simp only [decide_true, Bool.not_true, Bool.false_or]
      by_cases hc : canF N P a l = true
      · rw [hc, Bool.or_true]
      · rw [if_neg hc] at h1
        rw [Bool.or_eq_true, decide_eq_true_eq]
        exact .inl (by omega)
    · simp [hd]
  · have h1 := h l (List.mem_range.2 hl)
    have hs := hI.slot l hl
    unfold fullT fullN at h1
    rw [hd] at hs h1
    simp only [decide_true, Bool.not_true, Bool.false_or, Bool.or_eq_true, decide_eq_true_eq] at h1
    by_cases hc : canF N P a l = true
    · have := ((can_iff hO hI hl).1 hc).2.2.2
      rw [if_pos hc]; omega
    · rw [if_neg hc]
      rcases h1 with h1 | h1
      · omega
      · exact absurd h1 hc
theorem free_same (hA : Apart N) (h0 : 0 ≤ a.a) : freeF N P a = (holdsN P a.k && (List.range N.length).all fun l => !decide ((lnAt N l).src = a.k) || (!untT N P a l && decide (knownT N P a l ≤ a.a))) := by
  have ht := hI.turn a.k
  rw [Bool.eq_iff_iff, free_iff hO hI, Bool.and_eq_true, List.all_eq_true]
  unfold holdsN
  rw [decide_eq_true_iff]
  have hcn : ∀ l, l < N.length → (lnAt N l).src = a.k → canF N P a l = false := fun l hl hd => by
    rw [Bool.eq_false_iff]
    intro hc
    exact hA l hl (hd.trans ((can_iff hO hI hl).1 hc).1.symm)
  refine and_congr (by omega) ⟨fun h l hl => ?_, fun h l hl hd => ?_⟩
  · rw [List.mem_range] at hl
    by_cases hd : (lnAt N l).src = a.k
    · obtain ⟨h1, h2⟩ := h l hl hd
      unfold untT untN knownT knownN
      rw [hcn l hl hd, hd]
      simp only [decide_true, Bool.not_true, Bool.false_or, Bool.not_false, Bool.and_true, Bool.and_eq_true, Bool.not_eq_true', decide_eq_false_iff_not, decide_eq_true_eq, Bool.false_eq_true, if_false]
      refine ⟨by omega, ?_⟩
      rcases h2 with h2 | h2
      · exact h2
      · rw [known_zero l P (fun x hx => (hO.took x hx).1) h2]; exact h0
    · simp [hd]
  · have h1 := h l (List.mem_range.2 hl)
    have hs := hI.sent l hl
    unfold untT untN knownT knownN at h1
    rw [hcn l hl hd, hd] at h1
    simp only [decide_true, Bool.not_true, Bool.false_or, Bool.not_false, Bool.and_true, Bool.and_eq_true, Bool.not_eq_true', decide_eq_false_iff_not, decide_eq_true_eq, Bool.false_eq_true, if_false] at h1
    rw [hd] at hs
    exact ⟨by omega, .inl h1.2⟩
variable (V : Int → Nat → List Int)
theorem full_next {l : Nat} (hl : l < N.length) : fullN N (P ++ [(a, wakeF N V P a)]) l = if (wakeF N V P a).did = 1 ∧ (lnAt N l).dst = a.k then false else fullT N P a l := by
  have hs := hI.slot l hl
  unfold fullN
  rw [cnt_next, tk_next N V P a hl]
  by_cases h : a.k = (lnAt N l).dst ∧ (wakeF N V P a).did = 1
  · rw [if_pos h, show (if (wakeF N V P a).did = 1 ∧ (lnAt N l).dst = a.k then false else fullT N P a l) = false from if_pos ⟨h.2, h.1.symm⟩, decide_eq_false_iff_not]
    have hr : readyF N P a = true := by
      rcases did_cases N V P a with ⟨hr, _⟩ | ⟨_, _, hd⟩ | ⟨_, _, hd⟩
      · exact hr
      · rw [h.2] at hd; cases hd
      · rw [h.2] at hd; cases hd
    have := ((ready_iff hO hI).1 hr).2 l hl h.1.symm
    rw [← h.1]; omega
  · rw [if_neg h, show (if (wakeF N V P a).did = 1 ∧ (lnAt N l).dst = a.k then false else fullT N P a l) = fullT N P a l from if_neg (fun e => h ⟨e.2.symm, e.1⟩)]
    unfold fullT fullN
    by_cases hc : canF N P a l = true
    · obtain ⟨h1, _, _, h4⟩ := (can_iff hO hI hl).1 hc
      rw [if_pos hc, hc, Bool.or_true, decide_eq_true_iff, h1]; omega
    · rw [if_neg hc]
      rw [Bool.not_eq_true] at hc
      rw [hc, Bool.or_false, Nat.add_zero, Nat.add_zero]
omit hO hI in
theorem comes_next (l : Nat) : comesN N (P ++ [(a, wakeF N V P a)]) l = if (wakeF N V P a).did = 2 ∧ (lnAt N l).src = a.k then a.a + a.c else comesN N P l := by
  unfold comesN
  rw [comesF_app]
  simp only [comesF]
  have e : isD (lnAt N l).src 2 (a, wakeF N V P a) = decide ((wakeF N V P a).did = 2 ∧ (lnAt N l).src = a.k) := by
    unfold isD
    show (decide (a.k = (lnAt N l).src) && decide ((wakeF N V P a).did = 2)) = _
    rw [Bool.and_comm, ← Bool.decide_and]
    congr 1
    rw [eq_comm (a := a.k)]
  rw [e]
  simp only [decide_eq_true_eq]
  rfl
omit hO hI in
theorem known_next {l : Nat} (hl : l < N.length) : knownN (P ++ [(a, wakeF N V P a)]) l = knownT N P a l := by
  unfold knownN knownT
  rw [knownF_app]
  simp only [knownF]
  have e : (l ∈ (wakeF N V P a).took) ↔ canF N P a l = true := by
    show l ∈ tookF N P a ↔ _
    rw [took_mem]
    exact ⟨fun h => h.2, fun h => ⟨hl, h⟩⟩
  by_cases hc : canF N P a l = true
  · rw [if_pos (e.2 hc), if_pos hc]; rfl
  · rw [if_neg (fun h => hc (e.1 h)), if_neg hc]; rfl
theorem unt_next (hA : Apart N) {l : Nat} (hl : l < N.length) : untN N (P ++ [(a, wakeF N V P a)]) l = if (wakeF N V P a).did = 2 ∧ (lnAt N l).src = a.k then true else untT N P a l := by
  have hs := hI.sent l hl
  unfold untN
  rw [cnt_next, tk_next N V P a hl]
  by_cases h : a.k = (lnAt N l).src ∧ (wakeF N V P a).did = 2
  · rw [if_pos h, show (if (wakeF N V P a).did = 2 ∧ (lnAt N l).src = a.k then true else untT N P a l) = true from if_pos ⟨h.2, h.1.symm⟩, decide_eq_true_iff]
    have hc : ¬ canF N P a l = true := fun hc => hA l hl (h.1.symm.trans ((can_iff hO hI hl).1 hc).1.symm)
    rw [if_neg hc]; omega
  · rw [if_neg h, show (if (wakeF N V P a).did = 2 ∧ (lnAt N l).src = a.k then true else untT N P a l) = untT N P a l from if_neg (fun e => h ⟨e.2.symm, e.1⟩)]
    unfold untT untN
    by_cases hc : canF N P a l = true
    · obtain ⟨_, h2, _, _⟩ := (can_iff hO hI hl).1 hc
      rw [if_pos hc, hc, Bool.not_true, Bool.and_false, decide_eq_false_iff_not]; omega
    · rw [if_neg hc]
      rw [Bool.not_eq_true] at hc
      rw [hc, Bool.not_false, Bool.and_true, Nat.add_zero, Nat.add_zero]
omit hO in
theorem holds_next (pl : Int) : holdsN (P ++ [(a, wakeF N V P a)]) pl = if pl = a.k ∧ (wakeF N V P a).did = 1 then true else if pl = a.k ∧ (wakeF N V P a).did = 2 then false else holdsN P pl := by
  have ht := hI.turn pl
  unfold holdsN
  rw [cnt_next, cnt_next]
  simp only [eq_comm (a := pl)]
  by_cases h1 : a.k = pl ∧ (wakeF N V P a).did = 1
  · have h2 : ¬ (a.k = pl ∧ (wakeF N V P a).did = 2) := fun e => by rw [h1.2] at e; exact absurd e.2 (by decide)
    simp only [if_pos h1, if_neg h2, decide_eq_true_eq]; omega
  · by_cases h2 : a.k = pl ∧ (wakeF N V P a).did = 2
    · simp only [if_neg h1, if_pos h2, decide_eq_false_iff_not]; omega
    · simp only [if_neg h1, if_neg h2, Nat.add_zero]
end
theorem full_start (N : List LnF) (l : Nat) : fullN N [] l = (lnAt N l).late := by
  unfold fullN lateN
  cases (lnAt N l).late <;> simp [cntF, tkF]
theorem cnt_len (P : PastF) (pl : Int) : cntF P pl 1 + cntF P pl 2 ≤ P.length := by
  refine past_ind (p := fun P => cntF P pl 1 + cntF P pl 2 ≤ P.length) (by simp [cntF]) (fun P x ih => ?_) P
  rw [cntF_snoc, cntF_snoc, List.length_append]
  have : (if isD pl 1 x = true then 1 else 0) + (if isD pl 2 x = true then 1 else 0) ≤ 1 := by
    unfold isD
    by_cases h1 : x.2.did = 1
    · rw [h1]; simp; split <;> omega
    · by_cases h2 : x.2.did = 2
      · rw [h2]; simp; split <;> omega
      · simp [h1, h2]
  simp
  omega
section
variable (N : List LnF) (V : Int → Nat → List Int) (sc : List OpF)
def pastI (i : Nat) : PastF := runG N V [] (sc.take i)
theorem past_succ {i : Nat} (hi : i < sc.length) : pastI N V sc (i + 1) = pastI N V sc i ++ [(sc[i], wakeF N V (pastI N V sc i) sc[i])] := by
  unfold pastI
  rw [List.take_succ_eq_append_getElem hi, run_app]
  rfl
theorem past_get {i : Nat} (hi : i < sc.length) : ((runG N V [] sc).map Prod.snd)[i]? = some (wakeF N V (pastI N V sc i) sc[i]) := by
  have e : runG N V [] sc = runG N V (pastI N V sc (i + 1)) (sc.drop (i + 1)) := by
    unfold pastI
    rw [← run_app, List.take_append_drop]
  obtain ⟨S, h1, _, _⟩ := run_ext N V (sc.drop (i + 1)) (pastI N V sc (i + 1))
  obtain ⟨S0, f1, f2, _⟩ := run_ext N V (sc.take i) []
  have hl : (pastI N V sc i).length = i := by
    unfold pastI
    rw [f1, List.nil_append, ← List.length_map (f := Prod.fst), f2, List.length_take]
    omega
  rw [e, h1, past_succ N V sc hi, List.map_append, List.map_append, List.append_assoc, List.getElem?_append_right (by rw [List.length_map, hl]; exact Nat.le_refl _), List.length_map, hl, Nat.sub_self]
  rfl
theorem past_len {i : Nat} (hi : i ≤ sc.length) : (pastI N V sc i).length = i := by
  obtain ⟨S0, f1, f2, _⟩ := run_ext N V (sc.take i) []
  unfold pastI
  rw [f1, List.nil_append, ← List.length_map (f := Prod.fst), f2, List.length_take]
  omega
variable {N} {sc}
theorem past_all (hA : Apart N) (hS : ActsOk sc) {i : Nat} (hi : i < sc.length) : PastOk N (pastI N V sc i) (sc[i]).a ∧ RunInv N (pastI N V sc i) := by
  have hg : (sc.take i).Pairwise (fun x y => x.a ≤ y.a ∧ (x.k = y.k → x.a + x.b < y.a ∧ x.a + x.c < y.a)) := List.Pairwise.sublist (List.take_sublist _ _) hS.gap
  have h := run_ind hA V (p := fun _ => True) (fun _ _ _ _ _ _ => trivial) (sc.take i) [] (fun x hx => hS.nn x (List.mem_of_mem_take hx)) (by simpa using hg) (fun t _ => past_start N t) (inv_start N) trivial
  refine ⟨h.2.2 _ (fun x hx => ?_), h.2.1⟩
  obtain ⟨S0, f1, f2, _⟩ := run_ext N V (sc.take i) []
  have hm : x.1 ∈ sc.take i := by rw [← f2, ← List.nil_append S0, ← f1]; exact List.mem_map.2 ⟨x, hx, rfl⟩
  obtain ⟨j, hj, e⟩ := List.getElem_of_mem hm
  rw [List.length_take] at hj
  rw [List.getElem_take] at e
  rw [← e]
  have hp := hS.gap
  rw [List.pairwise_iff_getElem] at hp
  exact (hp j i (by omega) hi (by omega)).1
end
end Go.Proofs.Ytmndgoapkmhglab
namespace Go.Proofs.Ytmndgoapkmhglab
open Go.RowKit
attribute [local go_sem ↓] Go.wp_at_zero Go.wp_at_succ
set_option maxHeartbeats 1000000 in
theorem pfit_any (b : BdF) (w : World) :
    Calls Try.prog 32 #[b.val] w fun e w' => e = .returned (.bool (fitF b)) ∧ Below w.heap.size w w' := by
  obtain ⟨t0, t1, d0, d1⟩ := b
  by_cases h1 : t0 < 1
  · go_enter Try.func32, Try.ntmps32
    go_wp2
    go_ret
    exact ⟨by simp [fitF, h1], (Below.refl _ _).alloc (Nat.le_refl _) _⟩
  by_cases h2 : t1 < t0
  · go_enter Try.func32, Try.ntmps32
    go_wp2
    go_ret
    exact ⟨by simp [fitF, h2], (Below.refl _ _).alloc (Nat.le_refl _) _⟩
  by_cases h3 : 1000000 < t1
  · have h3' : t1 > 1000000 := h3
    go_enter Try.func32, Try.ntmps32
    go_wp2
    go_ret
    exact ⟨by simp [fitF, h3], (Below.refl _ _).alloc (Nat.le_refl _) _⟩
  have h3' : ¬ t1 > 1000000 := h3
  by_cases h4 : 0 ≤ d0
  · have h4' : d0 ≥ 0 := h4
    by_cases h5 : d0 ≤ d1
    · have h5' : d1 ≥ d0 := h5
      by_cases h6 : d1 < t0
      · go_enter Try.func32, Try.ntmps32
        go_wp2
        go_ret
        exact ⟨by simp [fitF, h1, h2, h3, h4, h5, h6], (Below.refl _ _).alloc (Nat.le_refl _) _⟩
      · go_enter Try.func32, Try.ntmps32
        go_wp2
        go_ret
        exact ⟨by simp [fitF, h6], (Below.refl _ _).alloc (Nat.le_refl _) _⟩
    · have h5' : ¬ d1 ≥ d0 := h5
      go_enter Try.func32, Try.ntmps32
      go_wp2
      go_ret
      exact ⟨by simp [fitF]; omega, (Below.refl _ _).alloc (Nat.le_refl _) _⟩
  · have h4' : ¬ d0 ≥ 0 := h4
    go_enter Try.func32, Try.ntmps32
    go_wp2
    go_ret
    exact ⟨by simp [fitF]; omega, (Below.refl _ _).alloc (Nat.le_refl _) _⟩
end Go.Proofs.Ytmndgoapkmhglab
