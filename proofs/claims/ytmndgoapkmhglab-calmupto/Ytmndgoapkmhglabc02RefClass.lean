import Derived.Test.Ytmndgoapkmhglabc00Base
namespace Go.Proofs.Ytmndgoapkmhglab
structure Nd where
  kind : Nat
  pos : Nat
  value : Nat
  name : ByteArray
  decl : Int
  op : Nat
  a : Nat
  b : Nat
  c : Nat
  delayed : Bool
  behind : Bool
structure Dc where
  kind : Nat
  number : Nat
  name : ByteArray
  pos : Nat
  place : Nat
  root : Nat
  fin : Nat
structure PS where
  next : Nat
  depth : Nat
  delays : Nat
  decls : List Dc
  nodes : List Nd
def ndZero : Nd := ⟨0, 0, 0, ⟨#[]⟩, 0, 0, 0, 0, 0, false, false⟩
def tkEnd : Tk := ⟨0, 0, ⟨#[]⟩⟩
def tkAt (ts : List Tk) (i : Nat) : Tk := ts.getD i tkEnd
def Tk.l (t : Tk) : List UInt8 := t.text.data.toList
def PS.hd (ts : List Tk) (p : PS) : Tk := tkAt ts p.next
def PS.adv (ts : List Tk) (p : PS) : PS := if p.next + 1 < ts.length then { p with next := p.next + 1 } else p
def PS.take (ts : List Tk) (p : PS) (l : List UInt8) : Except Nat PS := if (p.hd ts).l = l then .ok (p.adv ts) else .error p.next
def PS.add (ts : List Tk) (p : PS) (n : Nd) : PS :=
  { p with nodes := p.nodes ++ [{ n with pos := (p.hd ts).pos, delayed := decide (0 < p.delays), behind := decide (0 < p.next) && ((tkAt ts (p.next - 1)).l == kFby) }] }
def leafF (ts : List Tk) (p : PS) (n : Nd) : Nat × PS := (p.nodes.length, (p.add ts n).adv ts)
def opOf (l : List UInt8) : Option Nat :=
  if l = [43] then some 5 else if l = [45] then some 6 else if l = [42] then some 7 else if l = [47] then some 8
  else if l = [60] then some 9 else if l = [61] then some 10 else if l = [38] then some 11 else if l = [124] then some 12 else none
abbrev Ex := PS → Except Nat (Nat × PS)
def notF (ts : List Tk) (ex : Ex) (p : PS) (n : Nd) : Except Nat (Nd × PS) :=
  match ex (p.adv ts) with
  | .error e => .error e
  | .ok (a, p1) => .ok ({ n with kind := 3, a := a }, p1)
def choiceF (ts : List Tk) (ex : Ex) (p : PS) (n : Nd) : Except Nat (Nd × PS) :=
  match ex (p.adv ts) with
  | .error e => .error e
  | .ok (a, p1) =>
    match ex p1 with
    | .error e => .error e
    | .ok (b, p2) =>
      match ex p2 with
      | .error e => .error e
      | .ok (c, p3) => .ok ({ n with kind := 4, a := a, b := b, c := c }, p3)
def delayF (ex : Ex) (p : PS) (n : Nd) : Except Nat (Nd × PS) :=
  match ex { p with delays := p.delays + 1 } with
  | .error e => .error e
  | .ok (b, p1) => .ok ({ n with kind := 5, b := b }, { p1 with delays := p1.delays - 1 })
def isLit (n : Nd) : Bool := n.kind == 0 || n.kind == 1
def infixRest (ts : List Tk) (ex : Ex) (p1 : PS) (n : Nd) : Except Nat (Nd × PS) :=
  match opOf (p1.hd ts).l with
  | none => .error p1.next
  | some op =>
    match ex (p1.adv ts) with
    | .error e => .error e
    | .ok (b, p2) => .ok ({ n with kind := 6, op := op, b := b }, p2)
def infixF (ts : List Tk) (ex : Ex) (p : PS) (n : Nd) : Except Nat (Nd × PS) :=
  match ex p with
  | .error e => .error e
  | .ok (a, p1) =>
    if isLit (p1.nodes.getD a ndZero) = true ∧ (p1.hd ts).l = kFby then delayF ex (p1.adv ts) { n with a := a }
    else infixRest ts ex p1 { n with a := a }
def insideF (ts : List Tk) (ex : Ex) (p : PS) (n : Nd) : Except Nat (Nd × PS) :=
  if (p.hd ts).l = kNot then notF ts ex p n else if (p.hd ts).l = kIf then choiceF ts ex p n else infixF ts ex p n
def bracketF (ts : List Tk) (ex : Ex) (p : PS) : Except Nat (Nat × PS) :=
  match insideF ts ex { (p.add ts ndZero).adv ts with depth := p.depth + 1 } ((p.add ts ndZero).nodes.getD p.nodes.length ndZero) with
  | .error e => .error e
  | .ok (n, p2) =>
    match PS.take ts { p2 with depth := p2.depth - 1, nodes := p2.nodes.set p.nodes.length n } [41] with
    | .error e => .error e
    | .ok p3 => .ok (p.nodes.length, p3)
def atomF (ts : List Tk) (p : PS) (br : Except Nat (Nat × PS)) : Except Nat (Nat × PS) :=
  if (p.hd ts).l = [40] then br
  else if (p.hd ts).l = kTrue then .ok (leafF ts p { ndZero with kind := 1, value := 1 })
  else if (p.hd ts).l = kFalse then .ok (leafF ts p { ndZero with kind := 1 })
  else if (p.hd ts).kind = 3 then .ok (leafF ts p { ndZero with kind := 0, value := valOf (p.hd ts).l })
  else if (p.hd ts).kind = 1 then .ok (leafF ts p { ndZero with kind := 2, name := (p.hd ts).text })
  else .error p.next
def exprF (ts : List Tk) : Nat → PS → Except Nat (Nat × PS)
  | 0, p => atomF ts p (.error p.next)
  | f + 1, p => atomF ts p (bracketF ts (exprF ts f) p)
def placeF (ts : List Tk) (p : PS) : Except Nat (Nat × PS) :=
  if (p.hd ts).kind = 3 ∧ valOf (p.hd ts).l < 4 then .ok (valOf (p.hd ts).l, p.adv ts) else .error p.next
def sameSort (d : Dc) (l : List Dc) : Nat := (l.filter fun a => (a.kind == 0) == (d.kind == 0)).length
def PS.declare (p : PS) (d : Dc) : PS := { p with decls := p.decls ++ [{ d with number := d.number + sameSort d p.decls }] }
def inputF (ts : List Tk) (p : PS) : Except Nat PS :=
  if ((p.adv ts).hd ts).kind = 1 then
    PS.take ts (((p.adv ts).adv ts).declare ⟨0, 0, ((p.adv ts).hd ts).text, ((p.adv ts).hd ts).pos, 0, 0, 0⟩) [59]
  else .error (p.adv ts).next
def equationF (ts : List Tk) (kind : Nat) (p : PS) : Except Nat PS :=
  if ((p.adv ts).hd ts).kind = 1 then
    match PS.take ts ((p.adv ts).adv ts) kAt with
    | .error e => .error e
    | .ok p1 =>
      match placeF ts p1 with
      | .error e => .error e
      | .ok (pl, p2) =>
        match PS.take ts p2 [61] with
        | .error e => .error e
        | .ok p3 =>
          match exprF ts 16 p3 with
          | .error e => .error e
          | .ok (r, p4) => PS.take ts (p4.declare ⟨kind, 0, ((p.adv ts).hd ts).text, ((p.adv ts).hd ts).pos, pl, r, p4.nodes.length⟩) [59]
  else .error (p.adv ts).next
def declarationF (ts : List Tk) (p : PS) : Except Nat PS :=
  if (p.hd ts).l = kIn then inputF ts p else if (p.hd ts).l = kInt then equationF ts 1 p else if (p.hd ts).l = kBool then equationF ts 2 p else .error p.next
def declsF (ts : List Tk) : Nat → PS → Except Nat PS
  | 0, p => .ok p
  | f + 1, p =>
    if (p.hd ts).kind = 0 then .ok p
    else match declarationF ts p with
      | .error e => .error e
      | .ok p' => declsF ts f p'
def findF (l : List Dc) (name : ByteArray) : Int :=
  match l.findIdx? (fun d => d.name.data.toList == name.data.toList) with
  | some i => i
  | none => -1
def bindF (l : List Dc) (n : Nd) : Nd := if n.kind = 2 then { n with decl := findF l n.name } else n
def TsOk (ts : List Tk) : Prop := ts.length ≤ 1501 ∧ ∃ l k, ts = l ++ [⟨0, k, ⟨#[]⟩⟩]
theorem toks_ok (s : ByteArray) (h : s.size ≤ 1500) : TsOk (toks s) := by
  refine ⟨?_, toksFrom s s.size 0, s.size, rfl⟩
  have := toksFrom_length s s.size 0
  simp [toks]; omega
theorem TsOk.pos {ts : List Tk} (h : TsOk ts) : 0 < ts.length := by
  obtain ⟨_, l, k, rfl⟩ := h; simp
theorem TsOk.last {ts : List Tk} (h : TsOk ts) {i : Nat} (hi : i < ts.length) (hk : (tkAt ts i).kind ≠ 0 ∨ (tkAt ts i).l ≠ []) : i + 1 < ts.length := by
  obtain ⟨_, l, k, rfl⟩ := h
  by_cases e : i = l.length
  · subst e
    exfalso
    have : tkAt (l ++ [⟨0, k, ⟨#[]⟩⟩]) l.length = ⟨0, k, ⟨#[]⟩⟩ := by simp [tkAt]
    rw [this] at hk
    rcases hk with hk | hk
    · exact hk rfl
    · exact hk rfl
  · simp at hi ⊢; omega
theorem adv_next {ts : List Tk} (h : TsOk ts) {p : PS} (hi : p.next < ts.length) (hk : (p.hd ts).kind ≠ 0 ∨ (p.hd ts).l ≠ []) : p.adv ts = { p with next := p.next + 1 } := by
  unfold PS.adv
  rw [if_pos (h.last hi hk)]
theorem adv_lt {ts : List Tk} {p : PS} (hi : p.next < ts.length) : (p.adv ts).next < ts.length := by
  unfold PS.adv
  split
  · assumption
  · exact hi
@[simp] theorem adv_depth (ts : List Tk) (p : PS) : (p.adv ts).depth = p.depth := by unfold PS.adv; split <;> rfl
@[simp] theorem adv_delays (ts : List Tk) (p : PS) : (p.adv ts).delays = p.delays := by unfold PS.adv; split <;> rfl
@[simp] theorem adv_nodes (ts : List Tk) (p : PS) : (p.adv ts).nodes = p.nodes := by unfold PS.adv; split <;> rfl
@[simp] theorem adv_decls (ts : List Tk) (p : PS) : (p.adv ts).decls = p.decls := by unfold PS.adv; split <;> rfl
theorem adv_ge (ts : List Tk) (p : PS) : p.next ≤ (p.adv ts).next := by unfold PS.adv; split <;> simp
structure PS.Wf (ts : List Tk) (p : PS) : Prop where
  next : p.next < ts.length
  nodes : p.nodes.length ≤ p.next
  decls : p.decls.length ≤ p.next
  delays : p.delays ≤ p.depth
  depth : p.depth ≤ 16
def W (cl : Nat) (c : UInt8) : Bool := cls c.toNat == cl
def tokW (k : Nat) (w : List UInt8) (cl : Nat) : Tk := ⟨kindK w cl, k, ⟨w.toArray⟩⟩
def tkL : Nat → Nat → List UInt8 → List Tk
  | 0, _, _ => []
  | _ + 1, _, [] => []
  | f + 1, k, c :: r =>
    if cls c.toNat = 0 then tkL f (k + 1) r
    else if cls c.toNat = 1 ∨ cls c.toNat = 2 then
      tokW k (c :: r.takeWhile (W (cls c.toNat))) (cls c.toNat) :: tkL f (k + 1 + (r.takeWhile (W (cls c.toNat))).length) (r.dropWhile (W (cls c.toNat)))
    else tokW k [c] (cls c.toNat) :: tkL f (k + 1) r
theorem drop_le (p : UInt8 → Bool) (r : List UInt8) : (r.dropWhile p).length ≤ r.length := by
  have := List.takeWhile_append_dropWhile (p := p) (l := r)
  have h : (r.takeWhile p).length + (r.dropWhile p).length = r.length := by rw [← List.length_append, this]
  omega
theorem take_drop_len (p : UInt8 → Bool) (r : List UInt8) : (r.takeWhile p).length + (r.dropWhile p).length = r.length := by
  rw [← List.length_append, List.takeWhile_append_dropWhile]
theorem tkL_fuel : ∀ f g k (l : List UInt8), l.length ≤ f → l.length ≤ g → tkL f k l = tkL g k l := by
  intro f
  induction f with
  | zero =>
    intro g k l h1 h2
    cases l with
    | nil => cases g <;> rfl
    | cons c r => simp at h1
  | succ f ih =>
    intro g k l h1 h2
    cases l with
    | nil => cases g <;> rfl
    | cons c r =>
      cases g with
      | zero => simp at h2
      | succ g =>
        simp at h1 h2
        have := drop_le (W (cls c.toNat)) r
        simp only [tkL]
        rw [ih g (k + 1) r h1 h2, ih g _ (r.dropWhile (W (cls c.toNat))) (by omega) (by omega)]
def tk (k : Nat) (l : List UInt8) : List Tk := tkL l.length k l
theorem tk_nil (k : Nat) : tk k [] = [] := rfl
theorem tk_blank {k : Nat} {c : UInt8} {r : List UInt8} (h : cls c.toNat = 0) : tk k (c :: r) = tk (k + 1) r := by
  unfold tk; simp only [List.length_cons, tkL]; rw [if_pos h]
theorem tk_word {k : Nat} {c : UInt8} {r : List UInt8} (h : cls c.toNat = 1 ∨ cls c.toNat = 2) :
    tk k (c :: r) = tokW k (c :: r.takeWhile (W (cls c.toNat))) (cls c.toNat) :: tk (k + 1 + (r.takeWhile (W (cls c.toNat))).length) (r.dropWhile (W (cls c.toNat))) := by
  unfold tk; simp only [List.length_cons, tkL]; rw [if_neg (by omega), if_pos h]
  rw [tkL_fuel _ (r.dropWhile (W (cls c.toNat))).length _ _ (drop_le _ _) (Nat.le_refl _)]
theorem tk_one {k : Nat} {c : UInt8} {r : List UInt8} (h : 3 ≤ cls c.toNat) : tk k (c :: r) = tokW k [c] (cls c.toNat) :: tk (k + 1) r := by
  unfold tk; simp only [List.length_cons, tkL]; rw [if_neg (by omega), if_neg (by omega)]
theorem W_self (c : UInt8) : W (cls c.toNat) c = true := by simp [W]
theorem runTo_list (s : ByteArray) (cl : Nat) : ∀ f k, f = s.size - k → k ≤ s.size → runTo s cl f k = k + ((s.data.toList.drop k).takeWhile (W cl)).length := by
  intro f
  induction f with
  | zero =>
    intro k h hk
    have : s.data.toList.drop k = [] := by rw [List.drop_eq_nil_iff]; have : s.data.toList.length = s.size := Array.length_toList; omega
    rw [this]; rfl
  | succ f ih =>
    intro k h hk
    have hlen : s.data.toList.length = s.size := Array.length_toList
    have hk' : k < s.data.toList.length := by omega
    have hb : byt s k = (s.data.toList[k]'hk').toNat := by
      unfold byt; rw [List.getD_eq_getElem?_getD, List.getElem?_eq_getElem hk']; rfl
    rw [List.drop_eq_getElem_cons hk', List.takeWhile_cons]
    simp only [runTo]
    by_cases hc : cls (byt s k) = cl
    · rw [if_pos ⟨by omega, hc⟩, ih (k + 1) (by omega) (by omega)]
      rw [if_pos (by unfold W; rw [← hb, hc]; simp)]
      simp; omega
    · rw [if_neg (fun x => hc x.2), if_neg (by unfold W; rw [← hb]; simpa using hc)]
      rfl
theorem ba_ext {a b : ByteArray} (h : a.data.toList = b.data.toList) : a = b := by
  cases a; cases b
  congr
  exact Array.toList_inj.1 h
theorem takeWhile_take (p : UInt8 → Bool) (r : List UInt8) : r.take (r.takeWhile p).length = r.takeWhile p := by
  induction r with
  | nil => rfl
  | cons c r ih =>
    rw [List.takeWhile_cons]
    split
    · simp [ih]
    · rfl
theorem takeWhile_drop (p : UInt8 → Bool) (r : List UInt8) : r.drop (r.takeWhile p).length = r.dropWhile p := by
  induction r with
  | nil => rfl
  | cons c r ih =>
    rw [List.takeWhile_cons, List.dropWhile_cons]
    split
    · simp [ih]
    · rfl
theorem toksFrom_list (s : ByteArray) : ∀ n k, n = s.size - k → k ≤ s.size → toksFrom s (s.size - k) k = tk k (s.data.toList.drop k) := by
  intro n
  induction n using Nat.strongRecOn with
  | _ n ih =>
    intro k hn hk
    have hlen : s.data.toList.length = s.size := Array.length_toList
    by_cases hk' : k < s.size
    · have hk2 : k < s.data.toList.length := by omega
      have hb : byt s k = (s.data.toList[k]'hk2).toNat := by
        unfold byt; rw [List.getD_eq_getElem?_getD, List.getElem?_eq_getElem hk2]; rfl
      rw [List.drop_eq_getElem_cons hk2]
      generalize hcd : s.data.toList[k]'hk2 = c at hb
      have htk : ∀ e, tokAt s k = tokW k ((s.data.toList.drop k).take (e - k)) (cls c.toNat) ∨ endOf s k ≠ e := by
        intro e
        by_cases he : endOf s k = e
        · left
          unfold tokAt tokW kindB
          rw [he, hb]
          have hd : (s.extract k e).data.toList = (s.data.toList.drop k).take (e - k) := by
            rw [ByteArray.data_extract, Array.toList_extract, List.extract_eq_take_drop]
          congr 1
          · rw [hd]
          · exact ba_ext (by rw [hd])
        · exact .inr he
      by_cases h0 : cls c.toNat = 0
      · rw [toksFrom_blank s k hk' (by rw [hb]; exact h0), tk_blank h0]
        exact ih (s.size - (k + 1)) (by omega) (k + 1) rfl (by omega)
      · rw [toksFrom_tok s k hk' (by rw [hb]; exact h0)]
        by_cases h12 : cls c.toNat = 1 ∨ cls c.toNat = 2
        · rw [tk_word h12]
          have he : endOf s k = k + 1 + ((s.data.toList.drop (k + 1)).takeWhile (W (cls c.toNat))).length := by
            unfold endOf
            rw [hb, if_pos h12, runTo_list s _ _ (k + 1) rfl (by omega)]
          have hle := endOf_le s k hk'
          have hgt := endOf_gt s k
          rcases htk _ with h | h
          · rw [h]
            congr 1
            · congr 1
              rw [List.drop_eq_getElem_cons hk2, hcd]
              have e1 : endOf s k - k = (((s.data.toList.drop (k + 1)).takeWhile (W (cls c.toNat))).length) + 1 := by omega
              rw [e1, List.take_succ_cons, takeWhile_take]
            · rw [ih (s.size - endOf s k) (by omega) (endOf s k) rfl hle]
              rw [← he]
              congr 1
              rw [← takeWhile_drop, List.drop_drop]
              congr 1
          · exact absurd rfl h
        · have h3 : 3 ≤ cls c.toNat := by omega
          rw [tk_one h3]
          have he : endOf s k = k + 1 := by unfold endOf; rw [hb, if_neg h12]
          rcases htk (k + 1) with h | h
          · rw [h, he]
            congr 1
            · congr 1
              rw [List.drop_eq_getElem_cons hk2, hcd]
              have e1 : k + 1 - k = 1 := by omega
              rw [e1]; rfl
            · exact ih (s.size - (k + 1)) (by omega) (k + 1) rfl (by omega)
          · exact absurd he h
    · have : s.data.toList.drop k = [] := by rw [List.drop_eq_nil_iff]; omega
      rw [this, toksFrom_end s _ k (by omega)]
      rfl
theorem toks_list (s : ByteArray) : toks s = tk 0 s.data.toList ++ [⟨0, s.size, ⟨#[]⟩⟩] := by
  unfold toks
  have := toksFrom_list s _ 0 rfl (Nat.zero_le _)
  simp at this
  rw [this]
  rfl
theorem kindK_pos (w : List UInt8) (cl : Nat) : kindK w cl ≠ 0 := by
  unfold kindK wordK numK
  split
  · split
    · decide
    split <;> decide
  split
  · split <;> decide
  split <;> decide
theorem tk_kind : ∀ n k (l : List UInt8), l.length = n → ∀ t ∈ tk k l, t.kind ≠ 0 ∧ ∃ c ∈ l, t.text.data.toList.head? = some c ∧ (t.text.data.toList = [c] ∨ cls c.toNat = 1 ∨ cls c.toNat = 2) := by
  intro n
  induction n using Nat.strongRecOn with
  | _ n ih =>
    intro k l hn t ht
    cases l with
    | nil => rw [tk_nil] at ht; simp at ht
    | cons c r =>
      simp only [List.length_cons] at hn
      by_cases h0 : cls c.toNat = 0
      · rw [tk_blank h0] at ht
        obtain ⟨h1, d, hd, h2⟩ := ih r.length (by omega) (k + 1) r rfl t ht
        exact ⟨h1, d, List.mem_cons_of_mem _ hd, h2⟩
      · by_cases h12 : cls c.toNat = 1 ∨ cls c.toNat = 2
        · rw [tk_word h12] at ht
          rcases List.mem_cons.1 ht with rfl | ht
          · exact ⟨kindK_pos _ _, c, List.mem_cons_self .., rfl, .inr h12⟩
          · have hl := take_drop_len (W (cls c.toNat)) r
            obtain ⟨h1, d, hd, h2⟩ := ih _ (by omega) _ _ rfl t ht
            refine ⟨h1, d, List.mem_cons_of_mem _ ?_, h2⟩
            rw [← List.takeWhile_append_dropWhile (p := W (cls c.toNat)) (l := r)]
            exact List.mem_append_right _ hd
        · rw [tk_one (by omega)] at ht
          rcases List.mem_cons.1 ht with rfl | ht
          · exact ⟨kindK_pos _ _, c, List.mem_cons_self .., rfl, .inl rfl⟩
          · obtain ⟨h1, d, hd, h2⟩ := ih r.length (by omega) (k + 1) r rfl t ht
            exact ⟨h1, d, List.mem_cons_of_mem _ hd, h2⟩
end Go.Proofs.Ytmndgoapkmhglab
namespace Go.Proofs.Ytmndgoapkmhglab
open Go.RowKit

end Go.Proofs.Ytmndgoapkmhglab
