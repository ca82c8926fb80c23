import Derived.Deep.LoopGhost
import Derived.Test.YtmndgoapkmhglaaA00Base
import Derived.Test.YtmndgoapkmhglaaA24RefF
/- numbers as cells. -/
namespace Go.Proofs.Ytmndgoapkmhglaa
open Go.RowKit

def pCells (l : List Nat) : List Value := l.map fun (n : Nat) => Value.int .i64 (n : Int)
theorem pCells_snoc (l : List Nat) (n : Nat) : pCells (l ++ [n]) = pCells l ++ [.int .i64 (n : Int)] := by simp [pCells]
theorem Try.infoInt : (Try.prog.info? 3).map (fun i => (i.zero, i.size, i.bytes)) = some (some (.int .i64 0), 1, 8) := by kernel_rfl

end Go.Proofs.Ytmndgoapkmhglaa

/- Plain mathematics: the machine. -/
namespace Go.Proofs.Ytmndgoapkmhglaa

/-- an operation. -/
structure OpF where
  k : Int
  a : Int
  b : Int
  c : Int
/-- code. -/
structure CdF where
  ops : List OpF
  cells : List Int
  next : List Int
  out : List Int

/-- entry i of a list; 0 if there is none. -/
def atF (l : List Int) (i : Int) : Int := if i < 0 then 0 else l.getD i.toNat 0
/-- how many registers an operation reads. -/
def readsF (k : Int) : Nat := if k < 5 then 0 else if k = 13 then 1 else if k = 14 then 3 else 2
def regOk (i : Nat) (r : Int) : Bool := decide (0 ≤ r) && decide (r < (i : Int))
def opArgs (o : OpF) : List Int := [o.a, o.b, o.c]
/-- may operation i be this one? -/
def opOk (nc i : Nat) (o : OpF) : Bool :=
  decide (0 ≤ o.k) && decide (o.k ≤ 14) && (decide (o.k ≠ 3) || regOk nc o.a) && ((opArgs o).take (readsF o.k)).all (regOk i)
def opsOk (nc : Nat) : Nat → List OpF → Bool
  | _, [] => true
  | i, o :: r => opOk nc i o && opsOk nc (i + 1) r
/-- is code well formed? -/
def formedF (c : CdF) : Bool :=
  decide (c.ops.length ≤ 1500) && decide (c.next.length ≤ 1500) && decide (c.out.length ≤ 1500) && decide (c.cells.length = c.next.length) && opsOk c.cells.length 0 c.ops && c.next.all (regOk c.ops.length) && c.out.all (regOk c.ops.length)

/-- what an operation lays into its register. -/
def laysF (o : OpF) (n : Int) (regs cells ins links : List Int) : Int :=
  if o.k = 0 then o.a else if o.k = 1 then atF ins o.a else if o.k = 2 then atF links o.a else if o.k = 3 then atF cells o.a else if o.k = 4 then b2i (decide (n = 0))
  else if o.k = 5 then w64 (atF regs o.a + atF regs o.b) else if o.k = 6 then w64 (atF regs o.a - atF regs o.b) else if o.k = 7 then w64 (atF regs o.a * atF regs o.b)
  else if o.k = 8 then apF [47] (atF regs o.a) (atF regs o.b) else if o.k = 9 then b2i (decide (atF regs o.a < atF regs o.b)) else if o.k = 10 then b2i (decide (atF regs o.a = atF regs o.b))
  else if o.k = 11 then b2i (decide (atF regs o.a ≠ 0) && decide (atF regs o.b ≠ 0)) else if o.k = 12 then b2i (decide (atF regs o.a ≠ 0) || decide (atF regs o.b ≠ 0))
  else if o.k = 13 then b2i (decide (atF regs o.a = 0)) else if atF regs o.a = 0 then atF regs o.c else atF regs o.b
/-- the registers behind operations. -/
def regsF (n : Int) (cells ins links : List Int) (regs : List Int) : List OpF → List Int
  | [] => regs
  | o :: r => regsF n cells ins links (regs ++ [laysF o n regs cells ins links]) r

theorem regsF_snoc (n : Int) (cells ins links : List Int) : ∀ (l : List OpF) (regs : List Int) (o : OpF), regsF n cells ins links regs (l ++ [o]) = regsF n cells ins links regs l ++ [laysF o n (regsF n cells ins links regs l) cells ins links] := by
  intro l
  induction l with
  | nil => intro regs o; rfl
  | cons a r ih => intro regs o; exact ih _ o
theorem regsF_len (n : Int) (cells ins links : List Int) : ∀ (l : List OpF) (regs : List Int), (regsF n cells ins links regs l).length = regs.length + l.length := by
  intro l
  induction l with
  | nil => intro regs; rfl
  | cons a r ih => intro regs; show (regsF _ _ _ _ _ r).length = _; rw [ih]; simp; omega

/-- the machine: an error, or what comes out and the cells' next. -/
def execF (c : CdF) (n : Int) (cells ins links : List Int) : Nat × List Int × List Int :=
  if formedF c = false then (9, [], []) else if n < 0 ∨ cells.length ≠ c.cells.length then (10, [], [])
  else (0, c.out.map (atF (regsF n cells ins links [] c.ops)), c.next.map (atF (regsF n cells ins links [] c.ops)))

end Go.Proofs.Ytmndgoapkmhglaa

/- operations, cell by cell. -/
namespace Go.Proofs.Ytmndgoapkmhglaa
open Go.RowKit

def opCells (l : List OpF) : List Value := l.flatMap fun o => [.int .i64 o.k, .int .i64 o.a, .int .i64 o.b, .int .i64 o.c]

end Go.Proofs.Ytmndgoapkmhglaa

/- Plain mathematics: places that wake. An act is four numbers: its place k, its time a, its delays b (acknowledged) and c (published). -/
namespace Go.Proofs.Ytmndgoapkmhglaa

/-- an event. -/
structure EvF where
  k : Int
  a : Int
  did : Int
  n : Int
  took : List Nat
  vals : List Int
/-- a link: from a place to a place. -/
structure LnF where
  src : Int
  dst : Int
  late : Bool
abbrev PastF := List (OpF × EvF)

def isD (pl what : Int) (x : OpF × EvF) : Bool := decide (x.2.k = pl) && decide (x.2.did = what)
/-- how often a place has done something, as far as it is there at a time. -/
def didF (P : PastF) (pl what now : Int) (data : Bool) : Nat := (P.filter fun x => isD pl what x && decide (x.2.a + (if data then x.1.c else 0) ≤ now)).length
/-- how many values have been taken from a link, as far as it is there at a time. -/
def takenF (now : Int) (l : Nat) (ack : Bool) : PastF → Nat
  | [] => 0
  | x :: P => (if x.2.a + (if ack then x.1.b else 0) ≤ now then x.2.took.count l else 0) + takenF now l ack P
def lnAt (N : List LnF) (l : Nat) : LnF := N.getD l ⟨-1, -1, false⟩
def lateN (N : List LnF) (l : Nat) : Nat := if (lnAt N l).late then 1 else 0

def slotF (N : List LnF) (P : PastF) (a : OpF) (l : Nat) : Int := (takenF a.a l false P : Int) + lateN N l - didF P a.k 1 a.a false
def canF (N : List LnF) (P : PastF) (a : OpF) (l : Nat) : Bool := decide ((lnAt N l).dst = a.k) && (decide (slotF N P a l = 0) && decide (takenF a.a l false P < didF P (lnAt N l).src 2 a.a true))
def tookF (N : List LnF) (P : PastF) (a : OpF) : List Nat := (List.range N.length).filter (canF N P a)
def readyF (N : List LnF) (P : PastF) (a : OpF) : Bool :=
  decide (didF P a.k 1 a.a false = didF P a.k 2 a.a false) && (List.range N.length).all fun l => !decide ((lnAt N l).dst = a.k) || decide ((if canF N P a l then 1 else slotF N P a l) = 1)
def freeF (N : List LnF) (P : PastF) (a : OpF) : Bool :=
  decide (didF P a.k 2 a.a false < didF P a.k 1 a.a false) && (List.range N.length).all fun l => !decide ((lnAt N l).src = a.k) || decide (takenF a.a l true P = didF P a.k 2 a.a false)
/-- what happens when a place wakes. -/
def wakeF (N : List LnF) (V : Int → Nat → List Int) (P : PastF) (a : OpF) : EvF :=
  ⟨a.k, a.a, if readyF N P a then 1 else if freeF N P a then 2 else 0, if readyF N P a then (didF P a.k 1 a.a false : Int) else if freeF N P a then (didF P a.k 2 a.a false : Int) else 0, tookF N P a, if readyF N P a then [] else if freeF N P a then V a.k (didF P a.k 2 a.a false) else []⟩
/-- a script played behind a past. -/
def runG (N : List LnF) (V : Int → Nat → List Int) : PastF → List OpF → PastF
  | P, [] => P
  | P, a :: r => runG N V (P ++ [(a, wakeF N V P a)]) r

/-- counts of all that has been done. -/
def cntF (P : PastF) (pl what : Int) : Nat := (P.filter (isD pl what)).length
def tkF (l : Nat) : PastF → Nat
  | [] => 0
  | x :: P => x.2.took.count l + tkF l P
/-- when what a place published last comes; when it is known that the last value of a link was taken. -/
def comesF (pl : Int) : PastF → Int → Int
  | [], z => z
  | x :: P, z => comesF pl P (if isD pl 2 x then x.2.a + x.1.c else z)
def knownF (l : Nat) : PastF → Int → Int
  | [], z => z
  | x :: P, z => knownF l P (if l ∈ x.2.took then x.2.a + x.1.b else z)

theorem takenF_app (now : Int) (l : Nat) (ack : Bool) : ∀ (P Q : PastF), takenF now l ack (P ++ Q) = takenF now l ack P + takenF now l ack Q := by
  intro P
  induction P with
  | nil => intro Q; simp [takenF]
  | cons x P ih => intro Q; simp only [List.cons_append, takenF, ih]; omega
theorem tkF_app (l : Nat) : ∀ (P Q : PastF), tkF l (P ++ Q) = tkF l P + tkF l Q := by
  intro P
  induction P with
  | nil => intro Q; simp [tkF]
  | cons x P ih => intro Q; simp only [List.cons_append, tkF, ih]; omega
theorem comesF_app (pl : Int) : ∀ (P Q : PastF) (z : Int), comesF pl (P ++ Q) z = comesF pl Q (comesF pl P z) := by
  intro P
  induction P with
  | nil => intro Q z; rfl
  | cons x P ih => intro Q z; exact ih Q _
theorem knownF_app (l : Nat) : ∀ (P Q : PastF) (z : Int), knownF l (P ++ Q) z = knownF l Q (knownF l P z) := by
  intro P
  induction P with
  | nil => intro Q z; rfl
  | cons x P ih => intro Q z; exact ih Q _
theorem cntF_snoc (P : PastF) (x : OpF × EvF) (pl what : Int) : cntF (P ++ [x]) pl what = cntF P pl what + (if isD pl what x then 1 else 0) := by
  unfold cntF
  rw [List.filter_append, List.length_append]
  cases h : isD pl what x <;> simp [h]
theorem didF_snoc (P : PastF) (x : OpF × EvF) (pl what now : Int) (data : Bool) : didF (P ++ [x]) pl what now data = didF P pl what now data + (if isD pl what x && decide (x.2.a + (if data then x.1.c else 0) ≤ now) then 1 else 0) := by
  unfold didF
  rw [List.filter_append, List.length_append]
  cases h : (isD pl what x && decide (x.2.a + (if data then x.1.c else 0) ≤ now)) <;> simp [h]

/-- what is known of a past, up to a time. -/
structure PastOk (N : List LnF) (P : PastF) (now : Int) : Prop where
  same : ∀ x ∈ P, x.2.k = x.1.k ∧ x.2.a = x.1.a
  le : ∀ x ∈ P, x.1.a ≤ now
  gap : P.Pairwise fun x y => x.1.a ≤ y.1.a ∧ (x.1.k = y.1.k → x.1.a + x.1.b < y.1.a ∧ x.1.a + x.1.c < y.1.a)
  took : ∀ x ∈ P, x.2.took.Nodup ∧ ∀ l ∈ x.2.took, l < N.length ∧ (lnAt N l).dst = x.2.k

theorem PastOk.init {N : List LnF} {P : PastF} {x : OpF × EvF} {now : Int} (h : PastOk N (P ++ [x]) now) : PastOk N P now ∧ PastOk N P x.1.a ∧ x.1.a ≤ now ∧ x.2.k = x.1.k ∧ x.2.a = x.1.a ∧ (∀ y ∈ P, y.1.k = x.1.k → y.1.a + y.1.b < x.1.a ∧ y.1.a + y.1.c < x.1.a) := by
  have hp := List.pairwise_append.1 h.gap
  have hx : x ∈ P ++ [x] := by simp
  have hy : ∀ y ∈ P, y ∈ P ++ [x] := fun y hy => List.mem_append_left _ hy
  refine ⟨⟨fun y m => h.same y (hy y m), fun y m => h.le y (hy y m), hp.1, fun y m => h.took y (hy y m)⟩, ⟨fun y m => h.same y (hy y m), fun y m => (hp.2.2 y m x (by simp)).1, hp.1, fun y m => h.took y (hy y m)⟩, h.le x hx, (h.same x hx).1, (h.same x hx).2, fun y m => (hp.2.2 y m x (by simp)).2⟩

/-- an induction from behind. -/
theorem past_ind {p : PastF → Prop} (h0 : p []) (h1 : ∀ P x, p P → p (P ++ [x])) : ∀ P, p P := by
  have : ∀ n (P : PastF), P.length = n → p P := by
    intro n
    induction n with
    | zero => intro P hP; rw [List.length_eq_zero_iff.1 hP]; exact h0
    | succ n ih =>
      intro P hP
      have hne : P ≠ [] := fun e => by rw [e] at hP; cases hP
      rw [← List.dropLast_concat_getLast hne]
      exact h1 _ _ (ih _ (by simp [hP]))
  exact fun P => this P.length P rfl

theorem did_all {N : List LnF} {P : PastF} {now : Int} (h : PastOk N P now) (pl what : Int) : didF P pl what now false = cntF P pl what := by
  unfold didF cntF
  congr 1
  apply List.filter_congr
  intro x hx
  have h1 := h.le x hx
  have h2 := (h.same x hx).2
  have : decide (x.2.a + (if false = true then x.1.c else 0) ≤ now) = true := by simp; omega
  rw [this, Bool.and_true]
theorem taken_all {N : List LnF} {now : Int} (l : Nat) : ∀ {P : PastF}, PastOk N P now → takenF now l false P = tkF l P := by
  intro P
  induction P with
  | nil => intro _; rfl
  | cons x P ih =>
    intro h
    have h1 := h.le x (by simp)
    have h2 := (h.same x (by simp)).2
    simp only [takenF, tkF]
    rw [if_pos (by simp; omega), ih ⟨fun y m => h.same y (List.mem_cons_of_mem _ m), fun y m => h.le y (List.mem_cons_of_mem _ m), (List.pairwise_cons.1 h.gap).2, fun y m => h.took y (List.mem_cons_of_mem _ m)⟩]

theorem if_le (b : Bool) (n : Nat) : (if b = true then n else 0) ≤ n := by cases b <;> simp
theorem did_le (P : PastF) (pl what now : Int) (data : Bool) : didF P pl what now data ≤ cntF P pl what := by
  refine past_ind (p := fun P => didF P pl what now data ≤ cntF P pl what) (by simp [didF, cntF]) (fun P x ih => ?_) P
  rw [didF_snoc, cntF_snoc]
  have : (if (isD pl what x && decide (x.2.a + (if data then x.1.c else 0) ≤ now)) = true then 1 else 0) ≤ if isD pl what x = true then 1 else 0 := by
    cases isD pl what x with
    | false => simp
    | true => exact if_le _ 1
  omega

/-- what a place published: all but the last have come. -/
theorem did_come {N : List LnF} {now : Int} (pl : Int) : ∀ P : PastF, PastOk N P now → didF P pl 2 now true = if comesF pl P 0 ≤ now then cntF P pl 2 else cntF P pl 2 - 1 := by
  refine past_ind (fun _ => by simp [didF, cntF]) (fun P x ih h => ?_)
  obtain ⟨i1, i2, i3, i4, i5, i6⟩ := h.init
  rw [didF_snoc, cntF_snoc, comesF_app]
  rcases Bool.eq_false_or_eq_true (isD pl 2 x) with hx | hx
  rotate_left
  · have e : comesF pl [x] (comesF pl P 0) = comesF pl P 0 := by simp only [comesF]; rw [hx]; rfl
    rw [e, hx]
    simp only [Bool.false_and, Bool.false_eq_true, if_false, Nat.add_zero]
    exact ih i1
  · have e : comesF pl [x] (comesF pl P 0) = x.2.a + x.1.c := by simp only [comesF]; rw [hx]; rfl
    rw [e, hx]
    have hk : x.2.k = pl := by unfold isD at hx; simp at hx; exact hx.1
    have hall : didF P pl 2 now true = cntF P pl 2 := by
      unfold didF cntF
      congr 1
      apply List.filter_congr
      intro y hy
      cases hyd : isD pl 2 y with
      | false => rfl
      | true =>
        have hky : y.2.k = pl := by unfold isD at hyd; simp at hyd; exact hyd.1
        have h1 := i1.same y hy
        have h2 := (i6 y hy (by rw [← h1.1, ← i4, hky, hk])).2
        rw [Bool.true_and, decide_eq_true_iff, if_pos rfl]
        omega
    rw [hall]
    by_cases hc : x.2.a + x.1.c ≤ now
    · simp [hc]
    · simp [hc]

theorem taken_le (now : Int) (l : Nat) (ack : Bool) : ∀ P : PastF, takenF now l ack P ≤ tkF l P := by
  intro P
  induction P with
  | nil => simp [takenF, tkF]
  | cons x P ih =>
    simp only [takenF, tkF]
    have h1 := if_le (decide (x.2.a + (if ack = true then x.1.b else 0) ≤ now)) (x.2.took.count l)
    simp only [decide_eq_true_eq] at h1
    omega

theorem count_one {t : List Nat} (h : t.Nodup) (l : Nat) : t.count l = if l ∈ t then 1 else 0 := h.count

/-- what was taken: all but the last is known. -/
theorem taken_known {N : List LnF} {now : Int} (l : Nat) : ∀ P : PastF, PastOk N P now → takenF now l true P = if knownF l P 0 ≤ now then tkF l P else tkF l P - 1 := by
  refine past_ind (fun _ => by simp [takenF, tkF, knownF]) (fun P x ih h => ?_)
  obtain ⟨i1, i2, i3, i4, i5, i6⟩ := h.init
  rw [takenF_app, tkF_app, knownF_app]
  obtain ⟨hnd, htk⟩ := h.took x (by simp)
  simp only [takenF, tkF, knownF, Nat.add_zero]
  rw [count_one hnd l]
  by_cases hm : l ∈ x.2.took
  · have hall : takenF now l true P = tkF l P := by
      have key : ∀ Q : PastF, (∀ y ∈ Q, y ∈ P) → takenF now l true Q = tkF l Q := by
        intro Q
        induction Q with
        | nil => intro _; rfl
        | cons y Q ihQ =>
          intro hQ
          have hyP := hQ y (by simp)
          simp only [takenF, tkF]
          rw [ihQ (fun z hz => hQ z (List.mem_cons_of_mem _ hz))]
          obtain ⟨nd, tk⟩ := i1.took y hyP
          rw [count_one nd l]
          by_cases hl : l ∈ y.2.took
          · have e1 := (tk l hl).2
            have e2 := (htk l hm).2
            have h1 := i1.same y hyP
            have h2 := (i6 y hyP (by rw [← h1.1, ← i4, ← e1, ← e2])).1
            rw [if_pos (by simp; omega)]
          · simp [hl]
      exact key P (fun y hy => hy)
    rw [hall]
    simp only [hm, if_true]
    by_cases hc : x.2.a + x.1.b ≤ now
    · simp [hc]
    · simp [hc]
  · simp only [hm, if_false, Nat.add_zero]
    rw [ih i1]
    split <;> simp

end Go.Proofs.Ytmndgoapkmhglaa

/- Plain mathematics: what always holds of places that wake; what a place knows is how it is. -/
namespace Go.Proofs.Ytmndgoapkmhglaa

/-- what always holds. -/
structure RunInv (N : List LnF) (P : PastF) : Prop where
  turn : ∀ pl, cntF P pl 2 ≤ cntF P pl 1 ∧ cntF P pl 1 ≤ cntF P pl 2 + 1
  sent : ∀ l, l < N.length → tkF l P ≤ cntF P (lnAt N l).src 2 ∧ cntF P (lnAt N l).src 2 ≤ tkF l P + 1
  slot : ∀ l, l < N.length → cntF P (lnAt N l).dst 1 ≤ tkF l P + lateN N l ∧ tkF l P + lateN N l ≤ cntF P (lnAt N l).dst 1 + 1

/-- links go to other places. -/
def Apart (N : List LnF) : Prop := ∀ l, l < N.length → (lnAt N l).src ≠ (lnAt N l).dst

theorem lateN_le (N : List LnF) (l : Nat) : lateN N l ≤ 1 := by unfold lateN; split <;> omega

section
variable {N : List LnF} {P : PastF} {a : OpF} (hO : PastOk N P a.a) (hI : RunInv N P)
include hO

theorem slot_eq (l : Nat) : slotF N P a l = (tkF l P : Int) + lateN N l - cntF P a.k 1 := by
  unfold slotF; rw [taken_all l hO, did_all hO]
include hI

/-- what can be taken: it was published, has come, was not taken, and the slot is empty. -/
theorem can_iff {l : Nat} (hl : l < N.length) : canF N P a l = true ↔ (lnAt N l).dst = a.k ∧ tkF l P < cntF P (lnAt N l).src 2 ∧ comesF (lnAt N l).src P 0 ≤ a.a ∧ tkF l P + lateN N l = cntF P a.k 1 := by
  have hs := hI.sent l hl
  unfold canF
  rw [slot_eq hO, taken_all l hO, did_come (lnAt N l).src P hO]
  simp only [Bool.and_eq_true, decide_eq_true_eq]
  constructor
  · rintro ⟨h1, h2, h3⟩
    split at h3
    · rename_i hc; exact ⟨h1, h3, hc, by omega⟩
    · omega
  · rintro ⟨h1, h2, h3, h4⟩
    refine ⟨h1, by omega, ?_⟩
    rw [if_pos h3]; exact h2

omit hO hI in
theorem took_mem {l : Nat} : l ∈ tookF N P a ↔ l < N.length ∧ canF N P a l = true := by
  unfold tookF
  rw [List.mem_filter, List.mem_range]

/-- it can step just if it holds nothing, and of each link to it one value is there that no step used. -/
theorem ready_iff : readyF N P a = true ↔ cntF P a.k 1 = cntF P a.k 2 ∧ ∀ l, l < N.length → (lnAt N l).dst = a.k → tkF l P + (if canF N P a l = true then 1 else 0) + lateN N l = cntF P a.k 1 + 1 := by
  unfold readyF
  rw [did_all hO, did_all hO, Bool.and_eq_true, decide_eq_true_iff, List.all_eq_true]
  refine and_congr Iff.rfl ⟨fun h l hl hd => ?_, fun h l hl => ?_⟩
  · have := h l (List.mem_range.2 hl)
    rw [hd] at this
    simp only [decide_true, Bool.not_true, Bool.false_or, decide_eq_true_eq] at this
    by_cases hc : canF N P a l = true
    · have := ((can_iff hO hI hl).1 hc).2.2.2
      rw [if_pos hc]; omega
    · rw [if_neg hc] at this ⊢
      rw [slot_eq hO] at this
      omega
  · by_cases hd : (lnAt N l).dst = a.k
    · have := h l (List.mem_range.1 hl) hd
      rw [hd]
      simp only [decide_true, Bool.not_true, Bool.false_or, decide_eq_true_eq]
      by_cases hc : canF N P a l = true
      · rw [if_pos hc]
      · rw [if_neg hc] at this ⊢
        rw [slot_eq hO]; omega
    · simp [hd]

/-- it can publish just if it holds values, and on each link from it the value ahead was taken, and that is known. -/
theorem free_iff : freeF N P a = true ↔ cntF P a.k 1 = cntF P a.k 2 + 1 ∧ ∀ l, l < N.length → (lnAt N l).src = a.k → tkF l P = cntF P a.k 2 ∧ (knownF l P 0 ≤ a.a ∨ tkF l P = 0) := by
  have ht := hI.turn a.k
  unfold freeF
  rw [did_all hO, did_all hO, Bool.and_eq_true, decide_eq_true_iff, List.all_eq_true]
  refine and_congr (by omega) ⟨fun h l hl hd => ?_, fun h l hl => ?_⟩
  · have := h l (List.mem_range.2 hl)
    rw [hd] at this
    simp only [decide_true, Bool.not_true, Bool.false_or, decide_eq_true_eq] at this
    rw [taken_known l P hO] at this
    have hs := hI.sent l hl
    rw [hd] at hs
    split at this
    · rename_i hc; exact ⟨this, .inl hc⟩
    · exact ⟨by omega, .inr (by omega)⟩
  · by_cases hd : (lnAt N l).src = a.k
    · obtain ⟨h1, h2⟩ := h l (List.mem_range.1 hl) hd
      rw [hd]
      simp only [decide_true, Bool.not_true, Bool.false_or, decide_eq_true_eq]
      rw [taken_known l P hO]
      split
      · exact h1
      · rcases h2 with h2 | h2
        · omega
        · omega
    · simp [hd]

end

theorem known_zero (l : Nat) : ∀ P : PastF, (∀ x ∈ P, x.2.took.Nodup) → tkF l P = 0 → ∀ z, knownF l P z = z := by
  intro P
  induction P with
  | nil => intro _ _ z; rfl
  | cons x P ih =>
    intro hn h z
    simp only [tkF] at h
    have hm : l ∉ x.2.took := fun hm => by
      have := List.count_pos_iff.2 hm
      omega
    simp only [knownF]
    rw [if_neg hm]
    exact ih (fun y hy => hn y (List.mem_cons_of_mem _ hy)) (by omega) z

/-- the acts of a script that is played. -/
structure ActsOk (sc : List OpF) : Prop where
  nn : ∀ x ∈ sc, 0 ≤ x.a
  gap : sc.Pairwise fun x y => x.a ≤ y.a ∧ (x.k = y.k → x.a + x.b < y.a ∧ x.a + x.c < y.a)

theorem tookF_nodup (N : List LnF) (P : PastF) (a : OpF) : (tookF N P a).Nodup := List.Pairwise.filter _ List.nodup_range
theorem tookF_in (N : List LnF) (P : PastF) (a : OpF) : ∀ l ∈ tookF N P a, l < N.length ∧ (lnAt N l).dst = a.k := by
  intro l hl
  unfold tookF at hl
  rw [List.mem_filter, List.mem_range] at hl
  refine ⟨hl.1, ?_⟩
  have := hl.2
  unfold canF at this
  simp only [Bool.and_eq_true, decide_eq_true_eq] at this
  exact this.1

theorem past_next {N : List LnF} {V : Int → Nat → List Int} {P : PastF} {a : OpF} (hO : PastOk N P a.a) (hg : ∀ x ∈ P, x.1.a ≤ a.a ∧ (x.1.k = a.k → x.1.a + x.1.b < a.a ∧ x.1.a + x.1.c < a.a)) : PastOk N (P ++ [(a, wakeF N V P a)]) a.a := by
  refine ⟨fun x hx => ?_, fun x hx => ?_, ?_, fun x hx => ?_⟩
  · rcases List.mem_append.1 hx with hx | hx
    · exact hO.same x hx
    · rw [List.mem_singleton] at hx; subst hx; exact ⟨rfl, rfl⟩
  · rcases List.mem_append.1 hx with hx | hx
    · exact hO.le x hx
    · rw [List.mem_singleton] at hx; subst hx; exact Int.le_refl _
  · rw [List.pairwise_append]
    exact ⟨hO.gap, List.pairwise_singleton _ _, fun x hx y hy => by rw [List.mem_singleton] at hy; subst hy; exact hg x hx⟩
  · rcases List.mem_append.1 hx with hx | hx
    · exact hO.took x hx
    · rw [List.mem_singleton] at hx; subst hx; exact ⟨tookF_nodup N P a, tookF_in N P a⟩

theorem PastOk.mono {N : List LnF} {P : PastF} {t u : Int} (h : PastOk N P t) (htu : t ≤ u) : PastOk N P u := ⟨h.same, fun x hx => Int.le_trans (h.le x hx) htu, h.gap, h.took⟩

/-- what the next event adds. -/
theorem cnt_next (N : List LnF) (V : Int → Nat → List Int) (P : PastF) (a : OpF) (pl what : Int) : cntF (P ++ [(a, wakeF N V P a)]) pl what = cntF P pl what + (if a.k = pl ∧ (wakeF N V P a).did = what then 1 else 0) := by
  rw [cntF_snoc]
  congr 1
  have e : isD pl what (a, wakeF N V P a) = decide (a.k = pl ∧ (wakeF N V P a).did = what) := by
    unfold isD
    show (decide (a.k = pl) && decide ((wakeF N V P a).did = what)) = _
    rw [Bool.decide_and]
  rw [e]
  simp only [decide_eq_true_eq]
theorem tk_next (N : List LnF) (V : Int → Nat → List Int) (P : PastF) (a : OpF) {l : Nat} (hl : l < N.length) : tkF l (P ++ [(a, wakeF N V P a)]) = tkF l P + (if canF N P a l = true then 1 else 0) := by
  rw [tkF_app]
  congr 1
  simp only [tkF, Nat.add_zero]
  show (tookF N P a).count l = _
  rw [count_one (tookF_nodup N P a) l]
  by_cases hc : canF N P a l = true
  · rw [if_pos hc, if_pos (by unfold tookF; rw [List.mem_filter, List.mem_range]; exact ⟨hl, hc⟩)]
  · rw [if_neg hc, if_neg (by unfold tookF; rw [List.mem_filter]; exact fun e => hc e.2)]
theorem did_cases (N : List LnF) (V : Int → Nat → List Int) (P : PastF) (a : OpF) : (readyF N P a = true ∧ (wakeF N V P a).did = 1) ∨ (readyF N P a = false ∧ freeF N P a = true ∧ (wakeF N V P a).did = 2) ∨ (readyF N P a = false ∧ freeF N P a = false ∧ (wakeF N V P a).did = 0) := by
  unfold wakeF
  cases readyF N P a <;> cases freeF N P a <;> simp

theorem inv_next {N : List LnF} {V : Int → Nat → List Int} {P : PastF} {a : OpF} (hA : Apart N) (hO : PastOk N P a.a) (hI : RunInv N P) : RunInv N (P ++ [(a, wakeF N V P a)]) := by
  have hcan : ∀ l, l < N.length → canF N P a l = true → (lnAt N l).dst = a.k ∧ tkF l P < cntF P (lnAt N l).src 2 ∧ tkF l P + lateN N l = cntF P a.k 1 := fun l hl h => by
    obtain ⟨h1, h2, _, h4⟩ := (can_iff hO hI hl).1 h
    exact ⟨h1, h2, h4⟩
  rcases did_cases N V P a with ⟨hr, hd⟩ | ⟨_, hf, hd⟩ | ⟨_, _, hd⟩
  · obtain ⟨e1, e2⟩ := (ready_iff hO hI).1 hr
    refine ⟨fun pl => ?_, fun l hl => ?_, fun l hl => ?_⟩
    · rw [cnt_next, cnt_next, hd]
      have := hI.turn pl
      by_cases h : a.k = pl
      · subst h; simp; omega
      · simp [h]; exact this
    · rw [cnt_next, tk_next N V P a hl, hd]
      have := hI.sent l hl
      by_cases hc : canF N P a l = true
      · have h := hcan l hl hc; rw [if_pos hc]; simp; omega
      · rw [if_neg hc]; simpa using this
    · rw [cnt_next, tk_next N V P a hl, hd]
      have := hI.slot l hl
      by_cases h : a.k = (lnAt N l).dst
      · have h3 := e2 l hl h.symm
        rw [← h, if_pos ⟨rfl, rfl⟩]; omega
      · have hc : ¬ canF N P a l = true := fun hc => h (hcan l hl hc).1.symm
        rw [if_neg hc, if_neg (fun e => h e.1)]; exact this
  · obtain ⟨e1, e2⟩ := (free_iff hO hI).1 hf
    refine ⟨fun pl => ?_, fun l hl => ?_, fun l hl => ?_⟩
    · rw [cnt_next, cnt_next, hd]
      have := hI.turn pl
      by_cases h : a.k = pl
      · subst h; simp; omega
      · simp [h]; exact this
    · rw [cnt_next, tk_next N V P a hl, hd]
      have := hI.sent l hl
      by_cases h : a.k = (lnAt N l).src
      · have hc : ¬ canF N P a l = true := fun hc => hA l hl (h.symm.trans (hcan l hl hc).1.symm)
        have := (e2 l hl h.symm).1
        rw [if_neg hc, if_pos ⟨h, rfl⟩, ← h]; omega
      · have hz : (if a.k = (lnAt N l).src ∧ (2 : Int) = 2 then 1 else 0) = 0 := if_neg (fun e => h e.1)
        rw [hz]
        by_cases hc : canF N P a l = true
        · have := hcan l hl hc; rw [if_pos hc]; omega
        · rw [if_neg hc]; exact this
    · rw [cnt_next, tk_next N V P a hl, hd]
      have := hI.slot l hl
      have hz : (if a.k = (lnAt N l).dst ∧ (2 : Int) = 1 then 1 else 0) = 0 := if_neg (fun e => by have := e.2; revert this; decide)
      rw [hz]
      by_cases hc : canF N P a l = true
      · have h := hcan l hl hc; rw [if_pos hc, h.1]; rw [h.1] at this; omega
      · rw [if_neg hc]; exact this
  · refine ⟨fun pl => ?_, fun l hl => ?_, fun l hl => ?_⟩
    · rw [cnt_next, cnt_next, hd]
      simpa using hI.turn pl
    · rw [cnt_next, tk_next N V P a hl, hd]
      have := hI.sent l hl
      have hz : (if a.k = (lnAt N l).src ∧ (0 : Int) = 2 then 1 else 0) = 0 := if_neg (fun e => by have := e.2; revert this; decide)
      rw [hz]
      by_cases hc : canF N P a l = true
      · have := hcan l hl hc; rw [if_pos hc]; omega
      · rw [if_neg hc]; exact this
    · rw [cnt_next, tk_next N V P a hl, hd]
      have := hI.slot l hl
      have hz : (if a.k = (lnAt N l).dst ∧ (0 : Int) = 1 then 1 else 0) = 0 := if_neg (fun e => by have := e.2; revert this; decide)
      rw [hz]
      by_cases hc : canF N P a l = true
      · have h := hcan l hl hc; rw [if_pos hc, h.1]; rw [h.1] at this; omega
      · rw [if_neg hc]; exact this

theorem inv_start (N : List LnF) : RunInv N [] := ⟨fun _ => by simp [cntF], fun l _ => by simp [cntF, tkF], fun l _ => by simp only [cntF, tkF, List.filter_nil, List.length_nil, Nat.zero_add]; have := lateN_le N l; omega⟩
theorem past_start (N : List LnF) (t : Int) : PastOk N [] t := ⟨fun x hx => by simp at hx, fun x hx => by simp at hx, List.Pairwise.nil, fun x hx => by simp at hx⟩

/-- a script played: what holds behind each of its acts. -/
theorem run_ind {N : List LnF} (hA : Apart N) (V : Int → Nat → List Int) {p : PastF → Prop} (h1 : ∀ P a, PastOk N P a.a → RunInv N P → 0 ≤ a.a → p P → p (P ++ [(a, wakeF N V P a)])) :
    ∀ (sc : List OpF) (P : PastF), (∀ x ∈ sc, 0 ≤ x.a) → (P.map Prod.fst ++ sc).Pairwise (fun x y => x.a ≤ y.a ∧ (x.k = y.k → x.a + x.b < y.a ∧ x.a + x.c < y.a)) → (∀ t, (∀ x ∈ P, x.1.a ≤ t) → PastOk N P t) → RunInv N P → p P → p (runG N V P sc) ∧ RunInv N (runG N V P sc) ∧ ∀ t, (∀ x ∈ runG N V P sc, x.1.a ≤ t) → PastOk N (runG N V P sc) t := by
  intro sc
  induction sc with
  | nil => intro P _ _ hO hI hp; exact ⟨hp, hI, hO⟩
  | cons a r ih =>
    intro P hn hg hO hI hp
    have hga := List.pairwise_append.1 hg
    have hx : ∀ x ∈ P, x.1.a ≤ a.a ∧ (x.1.k = a.k → x.1.a + x.1.b < a.a ∧ x.1.a + x.1.c < a.a) := fun x hx => hga.2.2 x.1 (List.mem_map.2 ⟨x, hx, rfl⟩) a (by simp)
    have hOa : PastOk N P a.a := hO a.a (fun x m => (hx x m).1)
    have hOn := past_next (V := V) hOa hx
    refine ih (P ++ [(a, wakeF N V P a)]) (fun x m => hn x (List.mem_cons_of_mem _ m)) (by simpa using hg) (fun t ht => ?_) (inv_next hA hOa hI) (h1 P a hOa hI (hn a (by simp)) hp)
    exact hOn.mono (ht (a, wakeF N V P a) (by simp))

end Go.Proofs.Ytmndgoapkmhglaa

namespace Go.Proofs.Ytmndgoapkmhglaa
open Go.RowKit
attribute [local go_sem ↓] Go.wp_at_zero Go.wp_at_succ

theorem Ans.len {ts : List Tk} {n : Nat} {T : List UInt8} {d : Int} {i : Nat} {r : Int} (h : Ans ts n T d i r) : T.length ≤ 100 ∧ i < ts.length := by
  cases h <;> exact ⟨by simp only [List.length_cons]; omega, by assumption⟩

theorem Ans.inv {ts : List Tk} {n : Nat} {T : List UInt8} {d : Int} {i : Nat} {r : Int} (h : Ans ts n T d i r) : ∃ (x : UInt8) (X : List UInt8), T = x :: X ∧ X.length ≤ 99 ∧
    ((x = 80 ∧ (tkAt ts i).kind = 0 ∧ r = -1) ∨ (¬ (x = 80 ∧ (tkAt ts i).kind = 0) ∧ (ruleF x.toNat (rtok (tkAt ts i)) d).2.2 = false ∧ r = ((tkAt ts i).pos : Int)) ∨
     ∃ (k : Nat) (m : List UInt8) (u : Bool), n = k + 1 ∧ ¬ (x = 80 ∧ (tkAt ts i).kind = 0) ∧ ruleF x.toNat (rtok (tkAt ts i)) d = (m, u, true) ∧
       Ans ts k (m ++ X) (if u = true ∧ lAt ts i = [40] then d + 1 else if u = true ∧ lAt ts i = [41] then d - 1 else d) (if u = true then i + 1 else i) r) := by
  cases h with
  | done _ X _ _ hi hX hk => exact ⟨80, X, rfl, hX, .inl ⟨rfl, hk, rfl⟩⟩
  | fail _ x X _ _ hi hX h80 hr => exact ⟨x, X, rfl, hX, .inr (.inl ⟨h80, hr, rfl⟩)⟩
  | step k x X _ _ _ m u hi hX h80 hr hn => exact ⟨x, X, rfl, hX, .inr (.inr ⟨k, m, u, rfl, h80, hr, hn⟩)⟩

set_option maxHeartbeats 2000000 in
set_option maxRecDepth 100000 in
theorem stands_any (ts : List Tk) (n0 : Nat) (r : Int) (w : World) (g cap : Nat) (h : TokAt w g cap ts) (hF : ∀ i, TkF (tkAt ts i)) (hl : ts.length ≤ 1501) (hA : Ans ts n0 [80] 0 0 r) :
    Calls Try.prog 71 #[.slice (some ⟨g, 0, none⟩) ts.length cap] w fun e w' => e = .returned (.int .i64 r) ∧ Below w.heap.size w w' := by
  obtain ⟨i0, hi0, hz0, hz1, hz2⟩ := info_parts Try.infoU8
  have HT := hide h
  have HF := hide hF
  have HA := hide hA
  clear h hF hA
  go_enter Try.func71, Try.ntmps71
  go_wp2
  go_loopg [3, 4, 5] n0 (fun n v d i wr => ∃ (T : List UInt8) (e : Int) (k : Nat), d = .int .i64 e ∧ i = .int .i64 k ∧ e ≤ (k : Int) ∧ -(k : Int) ≤ e ∧ Ans ts n T e k r ∧ wr.ownsRow w.heap.size 5 1 v T.length (bCells T.reverse) ∧ Below w.heap.size w wr)
  case atStart =>
    refine ⟨[80], 0, 0, rfl, rfl, by omega, by omega, HA.out, ?_, (Below.refl _ _).alloc (Nat.le_refl _) _⟩
    exact World.ownsRow_lit w #[.int .u8 80] 1 (Nat.le_refl _) (by unfold maxLen; omega) rfl
  case round =>
    obtain ⟨T, e, k, rfl, rfl, he1, he2, hans, hown, hbel⟩ := hrel
    obtain ⟨hTl, hk⟩ := hans.len
    obtain ⟨a, ha⟩ : ∃ a, a = rtok (tkAt ts k) := ⟨_, rfl⟩
    obtain ⟨x0, x1, x2, x3⟩ := HT.out.cells hbel hk a ha
    have hbs := hbel.size
    have j1 : (0 : Int) ≤ (k : Int) := by omega
    have j2 : (k : Int) < (ts.length : Int) := by omega
    obtain ⟨x, X, rfl, hX, hcase⟩ := hans.inv
    obtain ⟨g2, cap2, rfl, hg2, hg3⟩ := hown.form (by simp)
    have hcx : wr.cell? ⟨g2, X.length, none⟩ = some (.int .u8 (x.toNat : Int)) := by
      have := hown.cellAt X.length (by simp)
      rw [this]
      simp [bCells]
    have hcap : X.length + 1 ≤ cap2 := by
      rcases hown.2 with ⟨h0, _⟩ | ⟨_, c', _, h1, _, _, h2, _⟩
      · cases h0
      · cases h1; simpa using h2
    have HOWN := hide hown
    simp only [List.length_cons] at hTl ⊢
    have i1 : (0 : Int) < ((X.length + 1 : Nat) : Int) := by omega
    have i2 : ((X.length + 1 : Nat) : Int) - 1 = (X.length : Int) := by omega
    have i3 : (X.length : Int) < ((X.length + 1 : Nat) : Int) := by omega
    have i4 : (0 : Int) ≤ (X.length : Int) := by omega
    have i5 : (X.length : Int) ≤ (cap2 : Int) := by omega
    have hts : a.c = 115 → 0 < a.word.size := fun h => by
      have hc := c115 (tkAt ts k)
      rw [← ha, h] at hc
      have h4 : (tkAt ts k).kind = 4 := by simpa using hc.symm
      have hw : a.word = (tkAt ts k).text := by rw [ha]; unfold rtok; simp [h4]
      have hne := (HF.out k).pos (by omega)
      rw [hw]
      rw [← size_len]
      exact List.length_pos_iff.2 hne
    have HSTEP := hide (tok_step a wr)
    clear hown hans
    rcases hcase with ⟨rfl, hk0, hr⟩ | ⟨h80, hr0, hr⟩ | ⟨n', m, u, hgk, h80, hrule, hnext⟩
    · have q1 : ((a.c : Int) == 101) = true := by
        have := c101 (tkAt ts k)
        rw [← ha, hk0] at this
        rw [show (101 : Int) = ((101 : Nat) : Int) from rfl, beq_cast, this]; rfl
      have HR := hide hr
      clear hr hk0 ha
      go_wp2
      go_ret
      exact ⟨by rw [HR.out]; rfl, hbel.alloc hbel.size _⟩
    · have hq : (((x.toNat : Int) == 80) = true ∧ ((a.c : Int) == 101) = false) ∨ ((x.toNat : Int) == 80) = false := by
        by_cases hx : x = 80
        · left
          refine ⟨by rw [hx]; rfl, ?_⟩
          have := c101 (tkAt ts k)
          rw [← ha, beq_eq_false_iff_ne.2 (fun hz => h80 ⟨hx, hz⟩)] at this
          rw [show (101 : Int) = ((101 : Nat) : Int) from rfl, beq_cast, this]
        · right
          rw [beq_eq_false_iff_ne]
          intro h
          exact hx (UInt8.toNat_inj.1 (show x.toNat = 80 by omega))
      have hp : (tkAt ts k).pos = a.pos := by rw [ha]; rfl
      rw [← ha] at hr0
      rw [hp] at hr
      have HR := hide hr
      have HR0 := hide hr0
      clear hr hr0 ha hp h80
      rcases hq with ⟨q1, q2⟩ | q1
      all_goals
        go_wp2_with fail
        refine (rule_any x.toNat a e _ hts).mono ?_
        rintro e1 w1 ⟨rfl, hb1⟩
        obtain ⟨m, u, ok, hm⟩ : ∃ m u ok, ruleF x.toNat a e = (m, u, ok) := ⟨_, _, _, rfl⟩
        have hok := HR0.out
        rw [hm] at hok ⊢
        simp only at hok
        subst hok
        obtain ⟨d0, d1, d2, d3, hbw⟩ := HSTEP.out w1 hb1
        clear hb1 hm
        go_wp2_with fail
        go_ret
        exact ⟨by rw [HR.out]; rfl, hbel.trans (hbw.mono hbel.size)⟩
    · have hq : (((x.toNat : Int) == 80) = true ∧ ((a.c : Int) == 101) = false) ∨ ((x.toNat : Int) == 80) = false := by
        by_cases hx : x = 80
        · left
          refine ⟨by rw [hx]; rfl, ?_⟩
          have := c101 (tkAt ts k)
          rw [← ha, beq_eq_false_iff_ne.2 (fun hz => h80 ⟨hx, hz⟩)] at this
          rw [show (101 : Int) = ((101 : Nat) : Int) from rfl, beq_cast, this]
        · right
          rw [beq_eq_false_iff_ne]
          intro h
          exact hx (UInt8.toNat_inj.1 (show x.toNat = 80 by omega))
      have hk1 := (HF.out k).kw [40] (by decide)
      have hk2 := (HF.out k).kw [41] (by decide)
      rw [← ha] at hrule hk1 hk2
      have hml := hnext.len.1
      rw [List.length_append] at hml
      have HRU := hide hrule
      have HNX := hide hnext
      have HGK := hide hgk
      have HK := hide (And.intro hk1 hk2)
      clear hrule hnext hgk ha h80 hk1 hk2
      rcases hq with ⟨q1, q2⟩ | q1
      all_goals
        go_wp2_with fail
        refine (rule_any x.toNat a e _ hts).mono ?_
        rintro e1 w1 ⟨rfl, hb1⟩
        obtain ⟨M, hM1, hM2⟩ : ∃ M : ByteArray, M.data.toList = m ∧ tri (m, u, true) = .tuple #[.string M, .bool u, .bool true] := ⟨⟨m.toArray⟩, by simp, rfl⟩
        rw [HRU.out, hM2]
        have hMs : M.size = m.length := by rw [← hM1, size_len]
        have hown1 := bel_own (HOWN.out.alloc (.cells #[.int .u8 (a.c : Int), .string a.word, .int .i64 (a.pos : Int), .int .i64 (a.n : Int)] 140)) hb1
        rw [List.reverse_cons, bCells_app] at hown1
        have hown2 := ownsRow_pop (by simp [bCells]) hown1
        have hbx1 : wr.heap.size < w1.heap.size := by have := hb1.size; simp at this; omega
        obtain ⟨d0, d1, d2, d3, hbw⟩ := HSTEP.out w1 hb1
        have hbel1 : Below w.heap.size w w1 := hbel.trans (hbw.mono hbel.size)
        have HO2 := hide hown2
        have HM := hide (And.intro hM1 hMs)
        have k1 : (M.size : Int) ≤ 100 := by omega
        clear hb1 hown1 hown2 d0 d2 d3 hbw x0 x1 x2 x3 hcx hM1 hM2 hMs HRU hts HSTEP HOWN
        go_wp2_with fail
        generalize wr.heap.size = B at hg3 hbs d1 hbx1 ⊢
        go_loopw [3, 11] (fun v kk wx => ∃ j : Nat, j ≤ m.length ∧ kk = .int .i64 ((j : Int) - 1) ∧ wx.ownsRow w.heap.size 5 1 v (X.length + (m.length - j)) (bCells (X.reverse ++ (m.drop j).reverse)) ∧ Below w.heap.size w wx ∧ wx.cell? ⟨B, 1, none⟩ = some (.string a.word) ∧ v.ownBlock ≠ some B ∧ B < wx.heap.size) (fun _ kk _ => ((intOf kk) + 1).toNat)
        case atStart =>
          refine ⟨m.length, Nat.le_refl _, by rw [HM.out.2], ?_, hbel1, d1, ?_, hbx1⟩
          · rw [Nat.sub_self, Nat.add_zero, List.drop_length, List.reverse_nil, List.append_nil]
            exact HO2.out
          · intro h
            have : g2 = B := by simpa [Value.ownBlock] using h
            omega
        case round =>
          clear hbel hbel1 d1 HO2 hbx1
          obtain ⟨j, hj, rfl, hownx, hbelx, hcx, hne, hBlt⟩ := hrel
          have hbsx := hbelx.size
          cases j with
          | zero =>
            rw [List.drop_zero, Nat.sub_zero] at hownx
            have hlast : (bCells (X.reverse ++ m.reverse)) = bCells (m ++ X).reverse := by rw [List.reverse_append]
            have hlen : X.length + m.length = (m ++ X).length := by rw [List.length_append]; omega
            rw [hlast, hlen] at hownx
            have HO := hide hownx
            clear hownx hlast hlen
            have z1 : ¬ (0 : Int) ≤ ((0 : Nat) : Int) - 1 := by omega
            cases u with
            | false =>
              have hnx := HNX.out
              rw [if_neg (by simp), if_neg (by simp), if_neg (by simp)] at hnx
              have HN2 := hide hnx
              clear hnx
              go_wp2
              go_roundg n'
              case measure => have := HGK.out; omega
              case rel => exact ⟨m ++ X, e, k, rfl, rfl, he1, he2, HN2.out, HO.out, hbelx⟩
            | true =>
              have hnx := HNX.out
              by_cases h1 : a.l = [40]
              · have s1 := str_yes (t := a.word) h1
                rw [if_pos ⟨rfl, HK.out.1.1 h1⟩, if_pos rfl] at hnx
                have HN2 := hide hnx
                clear hnx h1
                go_wp2
                go_roundg n'
                case measure => have := HGK.out; omega
                case rel => exact ⟨m ++ X, e + 1, k + 1, by go_num, by go_num, by omega, by omega, HN2.out, HO.out, hbelx⟩
              · have s1 := str_no (t := a.word) h1
                by_cases h2 : a.l = [41]
                · have s2 := str_yes (t := a.word) h2
                  rw [if_neg (fun h => h1 (HK.out.1.2 h.2)), if_pos ⟨rfl, HK.out.2.1 h2⟩, if_pos rfl] at hnx
                  have HN2 := hide hnx
                  clear hnx h1 h2 s1
                  go_wp2
                  go_roundg n'
                  case measure => have := HGK.out; omega
                  case rel => exact ⟨m ++ X, e - 1, k + 1, by go_num, by go_num, by omega, by omega, HN2.out, HO.out, hbelx⟩
                · have s2 := str_no (t := a.word) h2
                  rw [if_neg (fun h => h1 (HK.out.1.2 h.2)), if_neg (fun h => h2 (HK.out.2.2 h.2)), if_pos rfl] at hnx
                  have HN2 := hide hnx
                  clear hnx h1 h2
                  go_wp2
                  go_roundg n'
                  case measure => have := HGK.out; omega
                  case rel => exact ⟨m ++ X, e, k + 1, rfl, by go_num, by omega, by omega, HN2.out, HO.out, hbelx⟩
          | succ j =>
            have hMs := HM.out.2
            have hjm : j < M.size := by omega
            have eb := byt_eq M j hjm
            have z1 : ((j + 1 : Nat) : Int) - 1 = (j : Int) := by omega
            have z2 : (0 : Int) ≤ (j : Int) := by omega
            have z3 : (j : Int) < (M.size : Int) := by omega
            have HOX := hide hownx
            have hnl : X.length + (m.length - (j + 1)) ≤ 200 := by omega
            clear hMs
            rw [z1]
            go_wp2_with (at_builtin; refine wpList_append_lies _ rfl _ _ _ rfl w.heap.size 5 i0 _ 1 1 Try.underlying89 hi0 hz0 hz1 hz2 rfl (by omega) _ (X.length + (m.length - (j + 1))) (bCells (X.reverse ++ (m.drop (j + 1)).reverse)) rfl (HOX.out.alloc _) ⟨wr.heap.size, 0, none⟩ 1 1 [.int .u8 (byt M j : Int)] rfl rfl (World.news_of_block (cs := #[.int .u8 (byt M j : Int)]) (t := 5) (fr := (0, 0)) (heap_alloc_new wr _)) (by simp [Value.oneCell']) (by omega) (by unfold maxLen; omega) (by omega) (by simp; omega) (wr.heap.size + 1) (by simp) ?_; intro g3 cap3 w3 hown3 hgrow hat hlt3)
            go_roundw
            case rel =>
              have hml2 : j < m.length := by omega
              have hb2 : byt M j = (m[j]'hml2).toNat := by
                unfold byt; rw [HM.out.1, List.getD_eq_getElem?_getD, List.getElem?_eq_getElem hml2]; rfl
              have hsz3 := hgrow.size
              simp at hsz3
              refine ⟨j, by omega, by go_num, ?_, ?_, ?_, ?_, by omega⟩
              · rw [List.drop_eq_getElem_cons hml2, List.reverse_cons, ← List.append_assoc, bCells_app, show X.length + (m.length - j) = X.length + (m.length - (j + 1)) + 1 by omega]
                have e1 : bCells [m[j]'hml2] = [.int .u8 (byt M j : Int)] := by rw [hb2]; rfl
                rw [e1]
                exact hown3
              · exact (hbelx.alloc hbelx.size _).grown hgrow (by simp; omega) (fun j hj => ownBlock_ge HOX.out j hj)
              · exact hgrow.cell (by rw [World.cell?_alloc_past _ _ _ hBlt]; exact hcx) (fun h => hne h.symm)
              · intro h
                have h' : g3 = B := by simpa [Value.ownBlock] using h
                rcases hat with hat | hat
                · rw [h'] at hat; exact hne hat
                · omega
            case measure => simp [intOf]

end Go.Proofs.Ytmndgoapkmhglaa

namespace Go.Proofs.Ytmndgoapkmhglaa
open Go.RowKit
attribute [local go_sem ↓] Go.wp_at_zero Go.wp_at_succ

/-- a declaration as the document's own reader has it. -/
structure RDc where
  name : ByteArray
  tok : Nat
  input : Bool
  truth : Bool
  place : Nat
  body : Nat

def rdc (ts : List Tk) (x : Dl) : RDc := if x.kind = 0 then ⟨nameD ts x, x.i + 1, true, false, 0, 0⟩ else ⟨nameD ts x, x.i + 1, false, x.kind == 2, placeD ts x, x.i + 5⟩
def RDc.cells (d : RDc) : List Value := [.string d.name, .int .i64 (d.tok : Int), .bool d.input, .bool d.truth, .int .i64 (d.place : Int), .int .i64 (d.body : Int)]
def rdCells (l : List RDc) : List Value := l.flatMap RDc.cells
theorem rdCells_snoc (l : List RDc) (t : RDc) : rdCells (l ++ [t]) = rdCells l ++ t.cells := by simp [rdCells]
theorem rd_len (t : RDc) : t.cells.length = 6 := rfl

theorem Try.infoRDecl : (Try.prog.info? 138).map (fun i => (i.zero, i.size, i.bytes)) = some (some (.agg #[.string ⟨#[]⟩, .int .i64 0, .bool false, .bool false, .int .i64 0, .int .i64 0]), 6, 48) := by kernel_rfl

/-- a row in a program that is being laid. -/
structure Rw where
  v : Value
  e : Nat
  sz : Nat
  n : Nat
  xs : List Value

/-- a program that is being laid: its block, and its rows, each its own. -/
structure RPV (w : World) (B q : Nat) (vT : Value) (R : Nat → Rw) : Prop where
  lt : q < w.heap.size
  blk : w.heap[q]? = some (.cells #[vT, (R 1).v, (R 2).v, (R 3).v, (R 4).v] 135)
  own : ∀ f, w.ownsRow B (R f).e (R f).sz (R f).v (R f).n (R f).xs
  nq : ∀ f, (R f).v.ownBlock ≠ some q
  dis : ∀ f f' k, f ≠ f' → (R f).v.ownBlock = some k → (R f').v.ownBlock ≠ some k

theorem RPV.below {w w' : World} {B q : Nat} {vT : Value} {R : Nat → Rw} (h : RPV w B q vT R) (hb : Below w.heap.size w w') : RPV w' B q vT R :=
  ⟨Nat.lt_of_lt_of_le h.lt hb.size, (hb.block q h.lt).trans h.blk, fun f => bel_own (h.own f) hb, h.nq, h.dis⟩

def putR (R : Nat → Rw) (f : Nat) (r : Rw) : Nat → Rw := fun k => if k = f then r else R k

theorem putR_at (R : Nat → Rw) (f : Nat) (r : Rw) : putR R f r f = r := by unfold putR; rw [if_pos rfl]
theorem putR_ne (R : Nat → Rw) (f k : Nat) (r : Rw) (h : k ≠ f) : putR R f r k = R k := by unfold putR; rw [if_neg h]
theorem putR_put (R : Nat → Rw) (f : Nat) (r r' : Rw) : putR (putR R f r) f r' = putR R f r' := by funext k; unfold putR; split <;> rfl

theorem RPV.push {w w1 : World} {B q : Nat} {vT : Value} {R : Nat → Rw} (h : RPV w B q vT R) (f : Nat) (r : Rw) (hr : R f = r) (hf : 1 ≤ f ∧ f ≤ 4) {g cap n : Nat} {xs : List Value} (hgrow : w.grownBy w1 r.v.ownBlock)
    (hown : w1.ownsRow B r.e r.sz (.slice (some ⟨g, 0, none⟩) n cap) n xs) (hat : r.v.ownBlock = some g ∨ w.heap.size ≤ g) :
    RPV (w1.setCell ⟨q, f, none⟩ (.slice (some ⟨g, 0, none⟩) n cap)) B q vT (putR R f ⟨.slice (some ⟨g, 0, none⟩) n cap, r.e, r.sz, n, xs⟩) := by
  subst hr
  have gq : g ≠ q := by
    rcases hat with hg | hg
    · rintro rfl; exact h.nq f hg
    · have := h.lt; omega
  have hg2 : w1.grownBy (w1.setCell ⟨q, f, none⟩ (.slice (some ⟨g, 0, none⟩) n cap)) (some q) := ⟨rfl, rfl, rfl, by simp, fun k _ hk => heap_setCell_other w1 ⟨q, f, none⟩ k _ (fun e => hk (by simp [e]))⟩
  have hbb : w1.heap[q]? = w.heap[q]? := hgrow.block q h.lt (Ne.symm (h.nq f))
  have hnew : ∀ f', f' ≠ f → ∀ k, (R f').v.ownBlock = some k → k ≠ g := by
    intro f' hne k hk
    rcases hat with hg | hg
    · rintro rfl; exact h.dis f' f k hne hk hg
    · have := ((h.own f').lt k hk).2; omega
  refine ⟨?_, ?_, fun f' => ?_, fun f' => ?_, fun f1 f2 k hne => ?_⟩
  · have := hgrow.size; have := h.lt; simp; omega
  · rw [heap_setCell_same w1 q f _ _ _ (hbb.trans h.blk)]
    obtain ⟨h1, h4⟩ := hf
    have hc : f = 1 ∨ f = 2 ∨ f = 3 ∨ f = 4 := by omega
    rcases hc with rfl | rfl | rfl | rfl <;> rfl
  · unfold putR
    split
    · exact hown.kept hg2 (.inr (by simp [Value.ownBlock, gq]))
    · rename_i hne
      refine ((h.own f').kept hgrow ?_).kept hg2 (.inr (h.nq f'))
      cases hv : (R f').v.ownBlock with
      | none => exact .inl rfl
      | some k => exact .inr (fun e => h.dis f' f k hne hv e.symm)
  · unfold putR
    split
    · simp [Value.ownBlock, gq]
    · exact h.nq f'
  · unfold putR
    split
    · rename_i e1
      rw [if_neg (fun e2 => hne (e1.trans e2.symm))]
      intro hk h2
      have : g = k := by simpa [Value.ownBlock] using hk
      exact hnew f2 (fun e2 => hne (e1.trans e2.symm)) k h2 this.symm
    · rename_i e1
      intro hk
      split
      · intro h2
        have : g = k := by simpa [Value.ownBlock] using h2
        exact hnew f1 e1 k hk this.symm
      · exact h.dis f1 f2 k hne hk

def R0 : Nat → Rw := fun f => if f = 1 then ⟨.slice none 0 0, 3, 1, 0, []⟩ else ⟨.slice none 0 0, 138, 6, 0, []⟩

theorem R0_nil (f : Nat) : (putR R0 1 ⟨.slice none 0 0, 3, 1, 0, []⟩ f).v = .slice none 0 0 ∧ (putR R0 1 ⟨.slice none 0 0, 3, 1, 0, []⟩ f).n = 0 ∧ (putR R0 1 ⟨.slice none 0 0, 3, 1, 0, []⟩ f).xs = [] := by
  unfold putR R0
  split
  · exact ⟨rfl, rfl, rfl⟩
  · exact ⟨rfl, rfl, rfl⟩

/-- the rows of a program. -/
def RRw (n : Nat) (xs : List Value) (v vA vI vQ : Value) (A I Q : List RDc) : Nat → Rw := fun f =>
  if f = 1 then ⟨v, 3, 1, n, xs⟩ else if f = 2 then ⟨vA, 138, 6, A.length, rdCells A⟩ else if f = 3 then ⟨vI, 138, 6, I.length, rdCells I⟩
  else if f = 4 then ⟨vQ, 138, 6, Q.length, rdCells Q⟩ else ⟨.slice none 0 0, 138, 6, 0, []⟩
theorem RRw_put2 (n : Nat) (xs : List Value) (v vA vI vQ u : Value) (A I Q : List RDc) (d : RDc) : putR (RRw n xs v vA vI vQ A I Q) 2 ⟨u, 138, 6, A.length + 1, rdCells A ++ d.cells⟩ = RRw n xs v u vI vQ (A ++ [d]) I Q := by
  funext f; unfold putR RRw
  by_cases h : f = 2
  · subst h; simp [rdCells_snoc]
  · rw [if_neg h]; simp [h]
theorem RRw_put3 (n : Nat) (xs : List Value) (v vA vI vQ u : Value) (A I Q : List RDc) (d : RDc) : putR (RRw n xs v vA vI vQ A I Q) 3 ⟨u, 138, 6, I.length + 1, rdCells I ++ d.cells⟩ = RRw n xs v vA u vQ A (I ++ [d]) Q := by
  funext f; unfold putR RRw
  by_cases h : f = 3
  · subst h; simp [rdCells_snoc]
  · rw [if_neg h]; simp [h]
theorem RRw_put4 (n : Nat) (xs : List Value) (v vA vI vQ u : Value) (A I Q : List RDc) (d : RDc) : putR (RRw n xs v vA vI vQ A I Q) 4 ⟨u, 138, 6, Q.length + 1, rdCells Q ++ d.cells⟩ = RRw n xs v vA vI u A I (Q ++ [d]) := by
  funext f; unfold putR RRw
  by_cases h : f = 4
  · subst h; simp [rdCells_snoc]
  · rw [if_neg h]; simp [h]
theorem RRw_start (n : Nat) (xs : List Value) (v : Value) : putR R0 1 ⟨v, 3, 1, n, xs⟩ = RRw n xs v (.slice none 0 0) (.slice none 0 0) (.slice none 0 0) [] [] [] := by
  funext f; unfold putR R0 RRw
  by_cases h : f = 1
  · simp [h]
  · rw [if_neg h, if_neg h, if_neg h]
    by_cases h2 : f = 2
    · simp [h2, rdCells]
    · by_cases h3 : f = 3
      · simp [h3, rdCells]
      · by_cases h4 : f = 4
        · simp [h4, rdCells]
        · simp [h2, h3, h4]

/-- a program that is being laid, and a declaration in its box. -/
structure St (w0 W : World) (q N : Nat) (vT : Value) (R : Nat → Rw) (d : RDc) : Prop where
  rp : RPV W w0.heap.size q vT R
  blk : W.heap[N]? = some (.cells #[.string d.name, .int .i64 (d.tok : Int), .bool d.input, .bool d.truth, .int .i64 (d.place : Int), .int .i64 (d.body : Int)] 138)
  nq : N ≠ q
  nr : ∀ f, (R f).v.ownBlock ≠ some N
  bel : Below w0.heap.size w0 W
  q0 : w0.heap.size ≤ q

theorem St.push {w0 W w3 : World} {q N : Nat} {vT : Value} {R : Nat → Rw} {d : RDc} (h : St w0 W q N vT R d) (f : Nat) (r : Rw) (hr : R f = r) (hf : 1 ≤ f ∧ f ≤ 4) (o : Obj) {g cap n : Nat} {xs : List Value}
    (hgrow : (W.alloc o).drew.grownBy w3 r.v.ownBlock) (hown : w3.ownsRow w0.heap.size r.e r.sz (.slice (some ⟨g, 0, none⟩) n cap) n xs) (hat : r.v.ownBlock = some g ∨ g = W.heap.size + 1) :
    St w0 (w3.setCell ⟨q, f, none⟩ (.slice (some ⟨g, 0, none⟩) n cap)) q N vT (putR R f ⟨.slice (some ⟨g, 0, none⟩) n cap, r.e, r.sz, n, xs⟩) d := by
  have hlt : N < W.heap.size := by
    rcases Nat.lt_or_ge N W.heap.size with hl | hg
    · exact hl
    · have := h.blk; rw [Array.getElem?_eq_none hg] at this; cases this
  have hNr : r.v.ownBlock ≠ some N := hr ▸ h.nr f
  have hgN : g ≠ N := by
    rcases hat with hg | hg
    · rintro rfl; exact hNr hg
    · omega
  have hb : Below W.heap.size W (W.alloc o).drew := ((Below.refl _ _).alloc (Nat.le_refl _) o).drew
  have hsz : (W.alloc o).drew.heap.size = W.heap.size + 1 := by simp
  have hbe : ∀ k, r.v.ownBlock = some k → w0.heap.size ≤ k := fun k hk => ((hr ▸ h.rp.own f : W.ownsRow w0.heap.size r.e r.sz r.v r.n r.xs).lt k hk).1
  refine ⟨(h.rp.below hb).push f r hr hf hgrow hown (hat.imp id (fun e => by rw [hsz]; omega)), ?_, h.nq, fun f' => ?_, ?_, h.q0⟩
  · rw [heap_setCell_other w3 ⟨q, f, none⟩ N _ h.nq, hgrow.block N (by rw [hsz]; omega) (Ne.symm hNr)]
    rw [hb.block N hlt]; exact h.blk
  · unfold putR
    split
    · simp [Value.ownBlock, hgN]
    · exact h.nr f'
  · refine Below.setCell ?_ h.q0 _
    exact (h.bel.trans (hb.mono h.bel.size)).grown hgrow (by rw [hsz]; have := h.bel.size; omega) (fun j hj => hbe j hj)

theorem St.cells {w0 W : World} {q N : Nat} {vT : Value} {R : Nat → Rw} {d : RDc} (h : St w0 W q N vT R d) :
    N < W.heap.size ∧ q < W.heap.size ∧ (W.cell? ⟨N, 0, none⟩ = some (.string d.name) ∧ W.cell? ⟨N, 1, none⟩ = some (.int .i64 (d.tok : Int)) ∧ W.cell? ⟨N, 2, none⟩ = some (.bool d.input) ∧ W.cell? ⟨N, 3, none⟩ = some (.bool d.truth) ∧ W.cell? ⟨N, 4, none⟩ = some (.int .i64 (d.place : Int)) ∧ W.cell? ⟨N, 5, none⟩ = some (.int .i64 (d.body : Int))) := by
  have hlt : N < W.heap.size := by
    rcases Nat.lt_or_ge N W.heap.size with hl | hg
    · exact hl
    · have := h.blk; rw [Array.getElem?_eq_none hg] at this; cases this
  exact ⟨hlt, h.rp.lt, cell_of_row W N 0 _ _ _ h.blk, cell_of_row W N 1 _ _ _ h.blk, cell_of_row W N 2 _ _ _ h.blk, cell_of_row W N 3 _ _ _ h.blk, cell_of_row W N 4 _ _ _ h.blk, cell_of_row W N 5 _ _ _ h.blk⟩

theorem St.row {w0 W : World} {q N : Nat} {vT : Value} {R : Nat → Rw} {d : RDc} (h : St w0 W q N vT R d) (f : Nat) (r : Rw) (hr : R f = r) (hf : 1 ≤ f ∧ f ≤ 4) :
    (∀ o, (W.alloc o).cell? ⟨q, f, none⟩ = some r.v) ∧ (∀ o, (W.alloc o).frozen? ⟨q, f, none⟩ = false) ∧ W.cell? ⟨q, f, none⟩ = some r.v ∧ W.frozen? ⟨q, f, none⟩ = false ∧ W.ownsRow w0.heap.size r.e r.sz r.v r.n r.xs ∧ r.v.ownBlock ≠ some q := by
  subst hr
  have c : W.cell? ⟨q, f, none⟩ = some (R f).v := by
    have hc : f = 1 ∨ f = 2 ∨ f = 3 ∨ f = 4 := by omega
    rcases hc with rfl | rfl | rfl | rfl
    · exact cell_of_row W q 1 _ _ _ h.rp.blk
    · exact cell_of_row W q 2 _ _ _ h.rp.blk
    · exact cell_of_row W q 3 _ _ _ h.rp.blk
    · exact cell_of_row W q 4 _ _ _ h.rp.blk
  have fz : W.frozen? ⟨q, f, none⟩ = false := frozen_of_row W q f _ _ h.rp.blk
  exact ⟨fun o => by rw [World.cell?_alloc_past _ _ _ h.rp.lt]; exact c, fun o => by rw [World.frozen?_alloc_past _ _ _ h.rp.lt]; exact fz, c, fz, h.rp.own f, h.rp.nq f⟩

theorem St.below {w0 W W' : World} {q N : Nat} {vT : Value} {R : Nat → Rw} {d : RDc} (h : St w0 W q N vT R d) (hb : Below W.heap.size W W') : St w0 W' q N vT R d := by
  have hlt := h.cells.1
  exact ⟨h.rp.below hb, (hb.block N hlt).trans h.blk, h.nq, h.nr, h.bel.trans (hb.mono h.bel.size), h.q0⟩

theorem St.poke {w0 W : World} {q N : Nat} {vT : Value} {R : Nat → Rw} {d : RDc} (h : St w0 W q N vT R d) (hN : w0.heap.size ≤ N) (tr : Bool) (pl bo : Nat) :
    St w0 (((W.setCell ⟨N, 3, none⟩ (.bool tr)).setCell ⟨N, 4, none⟩ (.int .i64 (pl : Int))).setCell ⟨N, 5, none⟩ (.int .i64 (bo : Int))) q N vT R ⟨d.name, d.tok, d.input, tr, pl, bo⟩ := by
  have keep : ∀ (W : World) (k : Nat) (u : Value), RPV W w0.heap.size q vT R → RPV (W.setCell ⟨N, k, none⟩ u) w0.heap.size q vT R := fun W k u hr =>
    ⟨by have := hr.lt; simpa using this, (heap_setCell_other W ⟨N, k, none⟩ q _ (Ne.symm h.nq)).trans hr.blk,
     fun f => (hr.own f).kept (row := some N) ⟨rfl, rfl, rfl, by simp, fun j _ hj => heap_setCell_other W ⟨N, k, none⟩ j _ (fun e => hj (by simp [e]))⟩ (.inr (h.nr f)), hr.nq, hr.dis⟩
  refine ⟨keep _ _ _ (keep _ _ _ (keep _ _ _ h.rp)), ?_, h.nq, h.nr, ((h.bel.setCell hN _).setCell hN _).setCell hN _, h.q0⟩
  rw [heap_setCell_same _ N 5 _ _ _ (heap_setCell_same _ N 4 _ _ _ (heap_setCell_same _ N 3 _ _ _ h.blk))]
  rfl

end Go.Proofs.Ytmndgoapkmhglaa
