import Derived.Test.YtmndgoapkmhglaaM25OpenL
import Derived.Test.YtmndgoapkmhglaaM31GoodT
import Derived.Test.YtmndgoapkmhglaaM32StrD
import Derived.Test.YtmndgoapkmhglaaM35PfxB
/- Plain mathematics: programs with their names resolved. -/
namespace Go.Proofs.Ytmndgoapkmhglaa

/-- an expression with its names resolved. -/
inductive Rx where
  | num (n : Int)
  | inp (i : Nat)
  | eqn (j : Nat)
  | neg (a : Rx)
  | ite (a b c : Rx)
  | fby (v : Int) (b : Rx)
  | op (o : List UInt8) (a b : Rx)
  deriving DecidableEq

def nmB (ts : List Tk) (x : Dl) : List UInt8 := (nameD ts x).data.toList
def exOf (ts : List Tk) (I E : List (List UInt8)) : Ast → Nat → Rx
  | .leaf, i => if (tkAt ts i).kind = 1 then (match I.findIdx? (· == lAt ts i) with | some k => .inp k | none => match E.findIdx? (· == lAt ts i) with | some k => .eqn k | none => .num 0) else .num (litV (tkAt ts i))
  | .neg a, i => .neg (exOf ts I E a (i + 2))
  | .ite a b c, i => .ite (exOf ts I E a (i + 2)) (exOf ts I E b (i + 2 + a.len)) (exOf ts I E c (i + 2 + a.len + b.len))
  | .dly b, i => .fby (litV (tkAt ts (i + 1))) (exOf ts I E b (i + 3))
  | .bin a b, i => .op (lAt ts (i + 1 + a.len)) (exOf ts I E a (i + 1)) (exOf ts I E b (i + 2 + a.len))
def evE (ins : List (List Int)) (R : Nat → Nat → Int) : Rx → Nat → Int
  | .num v, _ => v
  | .inp i, n => elemF ins i n
  | .eqn j, n => R j n
  | .neg a, n => w64 (1 - evE ins R a n)
  | .ite a b c, n => if evE ins R a n = 1 then evE ins R b n else evE ins R c n
  | .fby v _, 0 => v
  | .fby _ b, n + 1 => evE ins R b n
  | .op o a b, n => apF o (evE ins R a n) (evE ins R b n)

theorem ix_map (ts : List Tk) (l : List Dl) (w : List UInt8) : l.findIdx? (nmIs ts w) = (l.map (nmB ts)).findIdx? (· == w) := by
  rw [List.findIdx?_map]; rfl

theorem ev_ex (ts : List Tk) (L : List Dl) (ins : List (List Int)) (R : Nat → Nat → Int) : ∀ (t : Ast) (i n : Nat), evT ts (valV ts L ins R) t i n = evE ins R (exOf ts ((inL L).map (nmB ts)) ((eqL L).map (nmB ts)) t i) n := by
  intro t
  induction t with
  | leaf =>
    intro i n
    unfold evT exOf
    by_cases hk : (tkAt ts i).kind = 1
    · rw [if_pos hk, if_pos hk]
      unfold valV inIx eqIx
      rw [ix_map, ix_map]
      cases ((inL L).map (nmB ts)).findIdx? (· == lAt ts i) with
      | some k => rfl
      | none =>
        cases ((eqL L).map (nmB ts)).findIdx? (· == lAt ts i) with
        | some k => rfl
        | none => rfl
    · rw [if_neg hk, if_neg hk]; rfl
  | neg a iha => intro i n; simp only [evT, exOf, evE]; rw [iha]
  | ite a b c iha ihb ihc => intro i n; simp only [evT, exOf, evE]; rw [iha, ihb, ihc]
  | dly b ihb =>
    intro i n
    cases n with
    | zero => rfl
    | succ n => simp only [evT, exOf, evE]; rw [ihb]
  | bin a b iha ihb => intro i n; simp only [evT, exOf, evE]; rw [iha, ihb]

/-- the equations of a text, with their names resolved. -/
def exs (ts : List Tk) (L : List Dl) : List Rx := (eqL L).map fun x => exOf ts ((inL L).map (nmB ts)) ((eqL L).map (nmB ts)) x.t (x.i + 5)

theorem inNames {ts : List Tk} {L L' : List Dl} (h : (inL L).map Dl.i = (inL L').map Dl.i) : (inL L).map (nmB ts) = (inL L').map (nmB ts) := by
  have e : ∀ l : List Dl, l.map (nmB ts) = (l.map Dl.i).map fun k => (tkAt ts (k + 1)).text.data.toList := fun l => by rw [List.map_map]; rfl
  rw [e, e, h]

/-- what is known of a text whose parts are told. -/
theorem told {s : ByteArray} {L' : List Dl} {es : List Rx} (hB : spellB (toks s) L' 0 = true) (hE : exs (toks s) L' = es) {L : List Dl} (hG : RGood s L) (hR : Right (toks s) L) (ins : List (List Int)) :
    (eqL L).length = es.length ∧ ∀ j, (h : j < es.length) → ∀ n, sol (toks s) L ins j n = evE ins (sol (toks s) L ins) es[j] n := by
  obtain ⟨e1, e2⟩ := spell_same (toks_F s) hG.sp (spellB_ok _ _ hB)
  have hex : exs (toks s) L = es := by
    rw [← hE]
    unfold exs
    rw [e1, inNames e2]
  have hl : (eqL L).length = es.length := by rw [← hex]; simp [exs]
  refine ⟨hl, fun j hj n => ?_⟩
  rw [sol_eq hR.toEqs j n (by omega), ev_ex]
  congr 1
  subst hex
  simp [exs]

def kT0 : ByteArray := { data := #[105, 110, 32, 97, 59, 105, 110, 116, 32, 120, 32, 97, 116, 32, 48, 61, 40, 40, 48, 32, 102, 98, 121, 32, 120, 41, 43, 97, 41, 59] }
def kL0 : List Dl := [⟨0, 0, .leaf⟩, ⟨1, 3, .bin (.dly (.leaf)) (.leaf)⟩]
def kE0 : List Rx := [.op [43] (.fby 0 (.eqn 0)) (.inp 0)]
theorem kT0_ok : textF kT0 = (0, 0) := by decide +kernel
theorem kT0_sp : spellB (toks kT0) kL0 0 = true := by decide +kernel
theorem kT0_ex : exs (toks kT0) kL0 = kE0 := by decide +kernel
theorem kT0_seats : (eqL kL0).length = 1 := by decide +kernel

def kT1 : ByteArray := { data := #[105, 110, 32, 97, 59, 105, 110, 32, 98, 59, 105, 110, 116, 32, 113, 32, 97, 116, 32, 49, 61, 40, 97, 47, 98, 41, 59, 105, 110, 116, 32, 114, 32, 97, 116, 32, 50, 61, 40, 97, 45, 40, 113, 42, 98, 41, 41, 59] }
def kL1 : List Dl := [⟨0, 0, .leaf⟩, ⟨0, 3, .leaf⟩, ⟨1, 6, .bin (.leaf) (.leaf)⟩, ⟨1, 17, .bin (.leaf) (.bin (.leaf) (.leaf))⟩]
def kE1 : List Rx := [.op [47] (.inp 0) (.inp 1), .op [45] (.inp 0) (.op [42] (.eqn 0) (.inp 1))]
theorem kT1_ok : textF kT1 = (0, 0) := by decide +kernel
theorem kT1_sp : spellB (toks kT1) kL1 0 = true := by decide +kernel
theorem kT1_ex : exs (toks kT1) kL1 = kE1 := by decide +kernel
theorem kT1_seats : (eqL kL1).length = 2 := by decide +kernel

def kT2 : ByteArray := { data := #[105, 110, 32, 97, 59, 105, 110, 116, 32, 120, 32, 97, 116, 32, 51, 61, 40, 55, 32, 102, 98, 121, 32, 97, 41, 59, 105, 110, 116, 32, 121, 32, 97, 116, 32, 48, 61, 40, 56, 32, 102, 98, 121, 32, 120, 41, 59] }
def kL2 : List Dl := [⟨0, 0, .leaf⟩, ⟨1, 3, .dly (.leaf)⟩, ⟨1, 14, .dly (.leaf)⟩]
def kE2 : List Rx := [.fby 7 (.inp 0), .fby 8 (.eqn 0)]
theorem kT2_ok : textF kT2 = (0, 0) := by decide +kernel
theorem kT2_sp : spellB (toks kT2) kL2 0 = true := by decide +kernel
theorem kT2_ex : exs (toks kT2) kL2 = kE2 := by decide +kernel
theorem kT2_seats : (eqL kL2).length = 2 := by decide +kernel

def kT3 : ByteArray := { data := #[105, 110, 32, 97, 59, 105, 110, 32, 98, 59, 105, 110, 116, 32, 109, 32, 97, 116, 32, 48, 61, 40, 105, 102, 32, 40, 97, 60, 98, 41, 32, 97, 32, 98, 41, 59] }
def kL3 : List Dl := [⟨0, 0, .leaf⟩, ⟨0, 3, .leaf⟩, ⟨1, 6, .ite (.bin (.leaf) (.leaf)) (.leaf) (.leaf)⟩]
def kE3 : List Rx := [.ite (.op [60] (.inp 0) (.inp 1)) (.inp 0) (.inp 1)]
theorem kT3_ok : textF kT3 = (0, 0) := by decide +kernel
theorem kT3_sp : spellB (toks kT3) kL3 0 = true := by decide +kernel
theorem kT3_ex : exs (toks kT3) kL3 = kE3 := by decide +kernel
theorem kT3_seats : (eqL kL3).length = 1 := by decide +kernel

def kT4 : ByteArray := { data := #[105, 110, 116, 32, 120, 32, 97, 116, 32, 48, 61, 40, 48, 32, 102, 98, 121, 32, 121, 41, 59, 105, 110, 116, 32, 121, 32, 97, 116, 32, 49, 61, 40, 120, 43, 49, 41, 59] }
def kL4 : List Dl := [⟨1, 0, .dly (.leaf)⟩, ⟨1, 11, .bin (.leaf) (.leaf)⟩]
def kE4 : List Rx := [.fby 0 (.eqn 1), .op [43] (.eqn 0) (.num 1)]
theorem kT4_ok : textF kT4 = (0, 0) := by decide +kernel
theorem kT4_sp : spellB (toks kT4) kL4 0 = true := by decide +kernel
theorem kT4_ex : exs (toks kT4) kL4 = kE4 := by decide +kernel
theorem kT4_seats : (eqL kL4).length = 2 := by decide +kernel

def kT5 : ByteArray := { data := #[105, 110, 116, 32, 102, 32, 97, 116, 32, 48, 61, 40, 48, 32, 102, 98, 121, 32, 103, 41, 59, 105, 110, 116, 32, 103, 32, 97, 116, 32, 49, 61, 40, 49, 32, 102, 98, 121, 32, 40, 102, 43, 103, 41, 41, 59] }
def kL5 : List Dl := [⟨1, 0, .dly (.leaf)⟩, ⟨1, 11, .dly (.bin (.leaf) (.leaf))⟩]
def kE5 : List Rx := [.fby 0 (.eqn 1), .fby 1 (.op [43] (.eqn 0) (.eqn 1))]
theorem kT5_ok : textF kT5 = (0, 0) := by decide +kernel
theorem kT5_sp : spellB (toks kT5) kL5 0 = true := by decide +kernel
theorem kT5_ex : exs (toks kT5) kL5 = kE5 := by decide +kernel
theorem kT5_seats : (eqL kL5).length = 2 := by decide +kernel

def kT6 : ByteArray := { data := #[105, 110, 32, 97, 59, 98, 111, 111, 108, 32, 112, 32, 97, 116, 32, 48, 61, 40, 40, 97, 61, 40, 48, 32, 102, 98, 121, 32, 97, 41, 41, 124, 40, 110, 111, 116, 32, 40, 97, 60, 48, 41, 41, 41, 59, 105, 110, 116, 32, 120, 32, 97, 116, 32, 50, 61, 40, 105, 102, 32, 112, 32, 49, 32, 48, 41, 59] }
def kL6 : List Dl := [⟨0, 0, .leaf⟩, ⟨2, 3, .bin (.bin (.leaf) (.dly (.leaf))) (.neg (.bin (.leaf) (.leaf)))⟩, ⟨1, 29, .ite (.leaf) (.leaf) (.leaf)⟩]
def kE6 : List Rx := [.op [124] (.op [61] (.inp 0) (.fby 0 (.inp 0))) (.neg (.op [60] (.inp 0) (.num 0))), .ite (.eqn 0) (.num 1) (.num 0)]
theorem kT6_ok : textF kT6 = (0, 0) := by decide +kernel
theorem kT6_sp : spellB (toks kT6) kL6 0 = true := by decide +kernel
theorem kT6_ex : exs (toks kT6) kL6 = kE6 := by decide +kernel
theorem kT6_seats : (eqL kL6).length = 2 := by decide +kernel

def kT7 : ByteArray := { data := #[105, 110, 32, 97, 59, 105, 110, 116, 32, 120, 32, 97, 116, 32, 48, 61, 40, 49, 32, 102, 98, 121, 32, 40, 50, 32, 102, 98, 121, 32, 40, 51, 32, 102, 98, 121, 32, 97, 41, 41, 41, 59] }
def kL7 : List Dl := [⟨0, 0, .leaf⟩, ⟨1, 3, .dly (.dly (.dly (.leaf)))⟩]
def kE7 : List Rx := [.fby 1 (.fby 2 (.fby 3 (.inp 0)))]
theorem kT7_ok : textF kT7 = (0, 0) := by decide +kernel
theorem kT7_sp : spellB (toks kT7) kL7 0 = true := by decide +kernel
theorem kT7_ex : exs (toks kT7) kL7 = kE7 := by decide +kernel
theorem kT7_seats : (eqL kL7).length = 1 := by decide +kernel

def kT8 : ByteArray := { data := #[105, 110, 32, 97, 59, 98, 111, 111, 108, 32, 112, 32, 97, 116, 32, 48, 61, 40, 116, 114, 117, 101, 32, 102, 98, 121, 32, 40, 110, 111, 116, 32, 112, 41, 41, 59, 105, 110, 116, 32, 120, 32, 97, 116, 32, 49, 61, 40, 105, 102, 32, 112, 32, 97, 32, 40, 48, 45, 97, 41, 41, 59] }
def kL8 : List Dl := [⟨0, 0, .leaf⟩, ⟨2, 3, .dly (.neg (.leaf))⟩, ⟨1, 17, .ite (.leaf) (.leaf) (.bin (.leaf) (.leaf))⟩]
def kE8 : List Rx := [.fby 1 (.neg (.eqn 0)), .ite (.eqn 0) (.inp 0) (.op [45] (.num 0) (.inp 0))]
theorem kT8_ok : textF kT8 = (0, 0) := by decide +kernel
theorem kT8_sp : spellB (toks kT8) kL8 0 = true := by decide +kernel
theorem kT8_ex : exs (toks kT8) kL8 = kE8 := by decide +kernel
theorem kT8_seats : (eqL kL8).length = 2 := by decide +kernel

end Go.Proofs.Ytmndgoapkmhglaa

/- Plain mathematics: the streams of Known's texts. -/
namespace Go.Proofs.Ytmndgoapkmhglaa

theorem w64_in {x : Int} (h : -9223372036854775808 ≤ x) (h' : x ≤ 9223372036854775807) : w64 x = x := by unfold w64 Go.RowKit.wrap64; omega
theorem w64_0 : w64 0 = 0 := w64_in (by omega) (by omega)
theorem w64_1 : w64 1 = 1 := w64_in (by omega) (by omega)
theorem w64_add (x q : Int) : w64 (x + 18446744073709551616 * q) = w64 x := by unfold w64 Go.RowKit.wrap64; omega
theorem w64_ex (x : Int) : ∃ q, w64 x = x + 18446744073709551616 * q := by
  refine ⟨-((x + 9223372036854775808) / 18446744073709551616), ?_⟩
  unfold w64 Go.RowKit.wrap64
  omega

theorem rest_of (a b : Int) : w64 (a - w64 (w64 (a.tdiv b) * b)) = w64 (a.tmod b) := by
  obtain ⟨q1, h1⟩ := w64_ex (a.tdiv b)
  obtain ⟨q2, h2⟩ := w64_ex (w64 (a.tdiv b) * b)
  rw [h2, h1, Int.tmod_def]
  have e : a - ((a.tdiv b + 18446744073709551616 * q1) * b + 18446744073709551616 * q2) = (a - b * a.tdiv b) + 18446744073709551616 * (-(q1 * b) - q2) := by
    rw [Int.add_mul, Int.mul_sub, Int.mul_neg, Int.mul_assoc, Int.mul_comm (a.tdiv b) b]
    omega
  rw [e, w64_add]

theorem tmod_in {a b : Int} (h : -9223372036854775808 ≤ a) (h' : a ≤ 9223372036854775807) : -9223372036854775808 ≤ a.tmod b ∧ a.tmod b ≤ 9223372036854775807 := by
  rcases Int.le_total 0 a with ha | ha
  · have h1 := Int.tmod_nonneg b ha
    have h2 : a.tmod b ≤ a := by
      rw [Int.tmod_def]
      have : 0 ≤ b * a.tdiv b := by
        rcases Int.le_total 0 b with hb | hb
        · exact Int.mul_nonneg hb (Int.tdiv_nonneg ha hb)
        · have : a.tdiv b ≤ 0 := Int.tdiv_nonpos_of_nonneg_of_nonpos ha hb
          exact Int.mul_nonneg_of_nonpos_of_nonpos hb this
      omega
    omega
  · have e : a.tmod b = -((-a).tmod b) := by rw [Int.neg_tmod, Int.neg_neg]
    have h1 := Int.tmod_nonneg b (show 0 ≤ -a by omega)
    have h2 : (-a).tmod b ≤ -a := by
      rw [Int.tmod_def]
      have : 0 ≤ b * (-a).tdiv b := by
        rcases Int.le_total 0 b with hb | hb
        · exact Int.mul_nonneg hb (Int.tdiv_nonneg (by omega) hb)
        · have : (-a).tdiv b ≤ 0 := Int.tdiv_nonpos_of_nonneg_of_nonpos (by omega) hb
          exact Int.mul_nonneg_of_nonpos_of_nonpos hb this
      omega
    omega

/-- an element at an instant that may lie ahead of the first. -/
def elemZ (ins : List (List Int)) (i : Nat) (k : Int) : Int := if k < 0 then 0 else elemF ins i k.toNat
def dlF (v x : Int) (k n : Nat) : Int := if k < n then v else x
def sumF (ins : List (List Int)) : Nat → Int
  | 0 => 0
  | n + 1 => w64 (sumF ins n + elemF ins 0 n)
def fibP : Nat → Int × Int
  | 0 => (0, 1)
  | n + 1 => ((fibP n).2, w64 ((fibP n).1 + (fibP n).2))
/-- the first two values by plain arithmetic. -/
def endsF (c : Nat) (ins : List (List Int)) (k : Nat) : Int × Int :=
  if c = 0 then (sumF ins (k + 1), 0)
  else if c = 1 then (if elemF ins 1 k = 0 then (0, elemF ins 0 k) else (w64 ((elemF ins 0 k).tdiv (elemF ins 1 k)), (elemF ins 0 k).tmod (elemF ins 1 k)))
  else if c = 2 then (dlF 7 (elemZ ins 0 ((k : Int) - 1)) k 1, dlF 8 (dlF 7 (elemZ ins 0 ((k : Int) - 2)) k 2) k 1)
  else if c = 3 then (if elemF ins 1 k < elemF ins 0 k then (elemF ins 1 k, 0) else (elemF ins 0 k, 0))
  else if c = 4 then ((k : Int), (k : Int) + 1)
  else if c = 5 then fibP k
  else if c = 6 then (b2i (decide (elemF ins 0 k = elemZ ins 0 ((k : Int) - 1)) || decide (elemF ins 0 k ≥ 0)), b2i (decide (elemF ins 0 k = elemZ ins 0 ((k : Int) - 1)) || decide (elemF ins 0 k ≥ 0)))
  else if c = 7 then (if k < 3 then ((k : Int) + 1, 0) else (elemF ins 0 (k - 3), 0))
  else (if k % 2 = 0 then (1, elemF ins 0 k) else (0, w64 (-(elemF ins 0 k))))

/-- streams that keep to equations. -/
def Keeps (ins : List (List Int)) (es : List Rx) (X : Nat → Nat → Int) : Prop := ∀ j, (h : j < es.length) → ∀ n, X j n = evE ins X es[j] n

section
variable {ins : List (List Int)} {X : Nat → Nat → Int}

theorem elemZ_of (i : Nat) (k : Nat) : elemZ ins i (k : Int) = elemF ins i k := by unfold elemZ; rw [if_neg (by omega)]; rfl

theorem k0 (h : Keeps ins kE0 X) (k : Nat) : X 0 k = (endsF 0 ins k).1 := by
  have h0 := h 0 (by decide)
  induction k with
  | zero => rw [h0]; simp [kE0, evE, endsF, sumF, apF]
  | succ k ih => rw [h0]; simp only [kE0, List.getElem_cons_zero, evE]; rw [ih]; simp [endsF, sumF, apF]

theorem k1 (h : Keeps ins kE1 X) (hr : ∀ i k, -9223372036854775808 ≤ elemF ins i k ∧ elemF ins i k ≤ 9223372036854775807) (k : Nat) : X 0 k = (endsF 1 ins k).1 ∧ X 1 k = (endsF 1 ins k).2 := by
  have h0 := h 0 (by decide) k
  have h1 := h 1 (by decide) k
  simp only [kE1, List.getElem_cons_zero, List.getElem_cons_succ, evE] at h0 h1
  have hra := hr 0 k
  have e1 : endsF 1 ins k = if elemF ins 1 k = 0 then (0, elemF ins 0 k) else (w64 ((elemF ins 0 k).tdiv (elemF ins 1 k)), (elemF ins 0 k).tmod (elemF ins 1 k)) := rfl
  rw [e1]
  rw [h0] at h1
  rw [h0, h1]
  have d : ∀ a b, apF [47] a b = if b = 0 then 0 else w64 (a.tdiv b) := fun _ _ => rfl
  have m : ∀ a b, apF [42] a b = w64 (a * b) := fun _ _ => rfl
  have t : ∀ a b, apF [45] a b = w64 (a - b) := fun _ _ => rfl
  rw [d, m, t]
  by_cases hb : elemF ins 1 k = 0
  · rw [if_pos hb, if_pos hb, hb, Int.mul_zero]
    refine ⟨rfl, ?_⟩
    rw [w64_0, Int.sub_zero]
    exact w64_in hra.1 hra.2
  · rw [if_neg hb, if_neg hb]
    refine ⟨rfl, ?_⟩
    rw [rest_of]
    exact w64_in (tmod_in hra.1 hra.2).1 (tmod_in hra.1 hra.2).2

theorem k2 (h : Keeps ins kE2 X) (k : Nat) : X 0 k = (endsF 2 ins k).1 ∧ X 1 k = (endsF 2 ins k).2 := by
  have h0 := h 0 (by decide)
  have h1 := h 1 (by decide)
  have e1 : endsF 2 ins k = (dlF 7 (elemZ ins 0 ((k : Int) - 1)) k 1, dlF 8 (dlF 7 (elemZ ins 0 ((k : Int) - 2)) k 2) k 1) := rfl
  rw [e1]
  match k with
  | 0 => exact ⟨by rw [h0]; rfl, by rw [h1]; rfl⟩
  | 1 =>
    refine ⟨?_, ?_⟩
    · rw [h0]; rfl
    · rw [h1]; show X 0 0 = _; rw [h0]; rfl
  | k + 2 =>
    have a1 : (((k + 2 : Nat) : Int) - 1) = ((k + 1 : Nat) : Int) := by omega
    have a2 : (((k + 2 : Nat) : Int) - 2) = ((k : Nat) : Int) := by omega
    refine ⟨?_, ?_⟩
    · rw [h0, a1]; simp only [dlF, elemZ_of]; rw [if_neg (by omega)]; rfl
    · rw [h1]
      show X 0 (k + 1) = _
      rw [h0, a2]; simp only [dlF, elemZ_of]; rw [if_neg (by omega), if_neg (by omega)]; rfl

theorem k3 (h : Keeps ins kE3 X) (k : Nat) : X 0 k = (endsF 3 ins k).1 := by
  have h0 := h 0 (by decide) k
  have hx : X 0 k = if b2i (decide (elemF ins 0 k < elemF ins 1 k)) = 1 then elemF ins 0 k else elemF ins 1 k := by rw [h0]; rfl
  have e1 : endsF 3 ins k = if elemF ins 1 k < elemF ins 0 k then (elemF ins 1 k, 0) else (elemF ins 0 k, 0) := rfl
  rw [hx, e1]
  by_cases h1 : elemF ins 1 k < elemF ins 0 k
  · rw [if_pos h1, decide_eq_false (by omega), if_neg (by decide)]
  · rw [if_neg h1]
    by_cases h2 : elemF ins 0 k < elemF ins 1 k
    · rw [decide_eq_true h2, if_pos (by decide)]
    · rw [decide_eq_false h2, if_neg (by decide)]
      show elemF ins 1 k = elemF ins 0 k
      omega

theorem k4 (h : Keeps ins kE4 X) (k : Nat) (hk : k ≤ 1000) : X 0 k = (endsF 4 ins k).1 ∧ X 1 k = (endsF 4 ins k).2 := by
  have h0 := h 0 (by decide)
  have h1 := h 1 (by decide)
  have e1 : endsF 4 ins k = ((k : Int), (k : Int) + 1) := rfl
  rw [e1]
  have a : ∀ a b, apF [43] a b = w64 (a + b) := fun _ _ => rfl
  have key : ∀ k, k ≤ 1000 → X 0 k = (k : Int) := by
    intro k
    induction k with
    | zero => intro _; rw [h0]; rfl
    | succ k ih =>
      intro hk
      rw [h0]
      show X 1 k = _
      rw [h1]
      simp only [kE4, List.getElem_cons_succ, List.getElem_cons_zero, evE]
      rw [ih (by omega), a, w64_in (by omega) (by omega)]
      omega
  refine ⟨key k hk, ?_⟩
  rw [h1]
  simp only [kE4, List.getElem_cons_succ, List.getElem_cons_zero, evE]
  rw [key k hk, a, w64_in (by omega) (by omega)]

theorem k5 (h : Keeps ins kE5 X) (k : Nat) : X 0 k = (endsF 5 ins k).1 ∧ X 1 k = (endsF 5 ins k).2 := by
  have h0 := h 0 (by decide)
  have h1 := h 1 (by decide)
  have e1 : endsF 5 ins k = fibP k := rfl
  rw [e1]
  induction k with
  | zero => exact ⟨by rw [h0]; rfl, by rw [h1]; rfl⟩
  | succ k ih =>
    have ih' := ih rfl
    refine ⟨?_, ?_⟩
    · rw [h0]; show X 1 k = _; rw [ih'.2]; rfl
    · rw [h1]; show apF [43] (X 0 k) (X 1 k) = _; rw [ih'.1, ih'.2]; rfl

theorem k6 (h : Keeps ins kE6 X) (k : Nat) : X 0 k = (endsF 6 ins k).1 ∧ X 1 k = (endsF 6 ins k).2 := by
  have h0 := h 0 (by decide)
  have h1 := h 1 (by decide)
  have e1 : endsF 6 ins k = (b2i (decide (elemF ins 0 k = elemZ ins 0 ((k : Int) - 1)) || decide (elemF ins 0 k ≥ 0)), b2i (decide (elemF ins 0 k = elemZ ins 0 ((k : Int) - 1)) || decide (elemF ins 0 k ≥ 0))) := rfl
  rw [e1]
  have key : X 0 k = b2i (decide (elemF ins 0 k = elemZ ins 0 ((k : Int) - 1)) || decide (elemF ins 0 k ≥ 0)) := by
    rw [h0]
    have hb : evE ins X (.fby 0 (.inp 0)) k = elemZ ins 0 ((k : Int) - 1) := by
      cases k with
      | zero => rfl
      | succ k => rw [show (((k + 1 : Nat) : Int) - 1) = ((k : Nat) : Int) by omega, elemZ_of]; rfl
    show apF [124] (apF [61] (elemF ins 0 k) (evE ins X (.fby 0 (.inp 0)) k)) (w64 (1 - apF [60] (elemF ins 0 k) 0)) = _
    rw [hb]
    have eq : ∀ a b, apF [61] a b = b2i (decide (a = b)) := fun _ _ => rfl
    have lt : ∀ a b, apF [60] a b = b2i (decide (a < b)) := fun _ _ => rfl
    have or' : ∀ a b, apF [124] a b = b2i (decide (a = 1) || decide (b = 1)) := fun _ _ => rfl
    rw [eq, lt, or']
    by_cases c1 : elemF ins 0 k = elemZ ins 0 ((k : Int) - 1) <;> by_cases c2 : elemF ins 0 k < 0
    · rw [decide_eq_true c1, decide_eq_true c2]; rfl
    · rw [decide_eq_true c1, decide_eq_false c2]; rfl
    · have c3 : ¬ elemF ins 0 k ≥ 0 := by omega
      rw [decide_eq_false c1, decide_eq_true c2, decide_eq_false c3, show (1 : Int) - b2i true = 0 from rfl, w64_0]; rfl
    · have c3 : elemF ins 0 k ≥ 0 := by omega
      rw [decide_eq_false c1, decide_eq_false c2, decide_eq_true c3, show (1 : Int) - b2i false = 1 from rfl, w64_1]; rfl
  refine ⟨key, ?_⟩
  rw [h1]
  show (if X 0 k = 1 then (1 : Int) else 0) = _
  rw [key]
  cases (decide (elemF ins 0 k = elemZ ins 0 ((k : Int) - 1)) || decide (elemF ins 0 k ≥ 0)) <;> rfl

theorem k7 (h : Keeps ins kE7 X) (k : Nat) : X 0 k = (endsF 7 ins k).1 := by
  have h0 := h 0 (by decide)
  have e1 : endsF 7 ins k = if k < 3 then ((k : Int) + 1, 0) else (elemF ins 0 (k - 3), 0) := rfl
  rw [e1]
  match k with
  | 0 => rw [h0]; rfl
  | 1 => rw [h0]; rfl
  | 2 => rw [h0]; rfl
  | k + 3 => rw [h0, if_neg (by omega)]; rfl

theorem k8 (h : Keeps ins kE8 X) (k : Nat) : X 0 k = (endsF 8 ins k).1 ∧ X 1 k = (endsF 8 ins k).2 := by
  have h0 := h 0 (by decide)
  have h1 := h 1 (by decide)
  have e1 : endsF 8 ins k = if k % 2 = 0 then (1, elemF ins 0 k) else (0, w64 (-(elemF ins 0 k))) := rfl
  rw [e1]
  have key : ∀ k, X 0 k = if k % 2 = 0 then 1 else 0 := by
    intro k
    induction k with
    | zero => rw [h0]; rfl
    | succ k ih =>
      rw [h0]
      show w64 (1 - X 0 k) = _
      rw [ih]
      by_cases hp : k % 2 = 0
      · rw [if_pos hp, if_neg (by omega)]; exact w64_0
      · rw [if_neg hp, if_pos (by omega)]; exact w64_1
  have hx : X 1 k = if X 0 k = 1 then elemF ins 0 k else apF [45] 0 (elemF ins 0 k) := by rw [h1]; rfl
  rw [hx, key k]
  by_cases hp : k % 2 = 0
  · rw [if_pos hp, if_pos hp]; exact ⟨rfl, rfl⟩
  · rw [if_neg hp, if_neg hp]
    refine ⟨rfl, ?_⟩
    show w64 (0 - elemF ins 0 k) = _
    rw [Int.zero_sub]
end

end Go.Proofs.Ytmndgoapkmhglaa

/- Known: element, truth, delayed, ends walked. -/
namespace Go.Proofs.Ytmndgoapkmhglaa
open Go.RowKit
attribute [local go_sem ↓] Go.wp_at_zero Go.wp_at_succ

set_option maxHeartbeats 1000000 in
theorem kelement_any (w : World) (v : Value) (ins : List (List Int)) (h : LsAt w v ins) (i : Nat) (k : Int) :
    Calls Try.prog 54 #[v, .int .i64 (i : Int), .int .i64 k] w fun e w' => e = .returned (.int .i64 (elemZ ins i k)) ∧ Below w.heap.size w w' := by
  obtain ⟨A, C, rfl, hm, hc⟩ := h
  by_cases hi : i < ins.length
  · obtain ⟨b, o, rfl, hb, hr⟩ := hc (by omega)
    obtain ⟨x, hx, A', C', rfl, hm', hc'⟩ := hr i hi
    have j1 : ¬ (i : Int) < 0 := by omega
    have j2 : ¬ (i : Int) ≥ (ins.length : Int) := by omega
    have i1 : (0 : Int) ≤ (i : Int) := by omega
    have i2 : (i : Int) < (ins.length : Int) := by omega
    by_cases hk0 : k < 0
    · have HV : Hid (elemZ ins i k = 0) := hide (by unfold elemZ; rw [if_pos hk0])
      clear hc hc' hr
      generalize ins[i].length = n at *
      go_enter Try.func54, Try.ntmps54
      go_wp2
      go_ret
      exact ⟨by rw [HV.out]; rfl, Below.refl _ _⟩
    obtain ⟨k, rfl⟩ : ∃ m : Nat, k = (m : Int) := ⟨k.toNat, by omega⟩
    have j3 : ¬ (k : Int) < 0 := by omega
    by_cases hk : k < ins[i].length
    · obtain ⟨b', o', rfl, hb', hr'⟩ := hc' (by omega)
      have hv : elemZ ins i (k : Int) = ins[i][k] := by
        rw [elemZ_of]
        unfold elemF
        rw [List.getD_eq_getElem?_getD, List.getD_eq_getElem?_getD, List.getElem?_eq_getElem hi, Option.getD_some, List.getElem?_eq_getElem hk, Option.getD_some]
      have hx' := hr' k hk
      have HV := hide hv
      have k1 : (0 : Int) ≤ (k : Int) := by omega
      generalize ins[i][k] = z at hx' HV
      have k2 : (k : Int) < (ins[i].length : Int) := by omega
      have k3 : ¬ (k : Int) ≥ (ins[i].length : Int) := by omega
      clear hv hc hc' hr hr' hk
      generalize ins[i].length = n at *
      go_enter Try.func54, Try.ntmps54
      go_wp2
      go_ret
      exact ⟨by rw [HV.out]; rfl, Below.refl _ _⟩
    · have hv : elemZ ins i (k : Int) = 0 := by
        rw [elemZ_of]
        unfold elemF
        rw [List.getD_eq_getElem?_getD, List.getD_eq_getElem?_getD, List.getElem?_eq_getElem hi, Option.getD_some, List.getElem?_eq_none (Nat.le_of_not_lt hk)]; rfl
      have HV := hide hv
      have k3 : (k : Int) ≥ (ins[i].length : Int) := by omega
      clear hv hc hc' hr
      generalize ins[i].length = n at *
      go_enter Try.func54, Try.ntmps54
      go_wp2
      go_ret
      exact ⟨by rw [HV.out]; rfl, Below.refl _ _⟩
  · have hv : elemZ ins i k = 0 := by
      unfold elemZ elemF
      have e : ins[i]? = none := List.getElem?_eq_none (Nat.le_of_not_lt hi)
      rw [List.getD_eq_getElem?_getD, List.getD_eq_getElem?_getD, e]
      split <;> rfl
    have HV := hide hv
    have j1 : ¬ (i : Int) < 0 := by omega
    have j2 : (i : Int) ≥ (ins.length : Int) := by omega
    clear hv hc
    go_enter Try.func54, Try.ntmps54
    go_wp2
    go_ret
    exact ⟨by rw [HV.out]; rfl, Below.refl _ _⟩

theorem ktruth_any (w : World) (b : Bool) :
    Calls Try.prog 56 #[.bool b] w fun e w' => e = .returned (.int .i64 (b2i b)) ∧ w = w' := by
  cases b
  all_goals
    go_enter Try.func56, Try.ntmps56
    go_wp2
    go_ret
    exact ⟨rfl, rfl⟩

theorem kdelayed_any (w : World) (v x : Int) (k n : Nat) :
    Calls Try.prog 55 #[.int .i64 v, .int .i64 x, .int .i64 (k : Int), .int .i64 (n : Int)] w fun e w' => e = .returned (.int .i64 (dlF v x k n)) ∧ w = w' := by
  by_cases h : k < n
  · have HV : Hid (dlF v x k n = v) := hide (by unfold dlF; rw [if_pos h])
    have z : (k : Int) < (n : Int) := by omega
    clear h
    go_enter Try.func55, Try.ntmps55
    go_wp2
    go_ret
    exact ⟨by rw [HV.out]; rfl, rfl⟩
  · have HV : Hid (dlF v x k n = x) := hide (by unfold dlF; rw [if_neg h])
    have z : ¬ (k : Int) < (n : Int) := by omega
    clear h
    go_enter Try.func55, Try.ntmps55
    go_wp2
    go_ret
    exact ⟨by rw [HV.out]; rfl, rfl⟩

abbrev v2 (r : Int × Int) : Value := .tuple #[.int .i64 r.1, .int .i64 r.2]

set_option maxHeartbeats 8000000 in
set_option maxRecDepth 100000 in
theorem kends_any (w : World) (v : Value) (ins : List (List Int)) (h : LsAt w v ins) (c : Int) (hc : -9223372036854775808 ≤ c) (hc' : c ≤ 9223372036854775807) (k : Nat) (hk : k ≤ 200) :
    Calls Try.prog 31 #[.int .i64 c, v, .int .i64 (k : Int)] w fun e w' => e = .returned (v2 (endsF (pickN c 9) ins k)) ∧ Below w.heap.size w w' := by
  have HP := hide (fun W => pick_any c 9 W hc hc' (by omega) (by omega))
  have hlt := pickN_lt c (m := 9) (by omega)
  generalize pickN c 9 = p at HP hlt
  have HEL := hide (fun W (hW : Below w.heap.size w W) i z => kelement_any W v ins (h.below hW) i z)
  have HE0 : Hid (elemZ ins 0 (k : Int) = elemF ins 0 k) := hide (elemZ_of 0 k)
  have HE1 : Hid (elemZ ins 1 (k : Int) = elemF ins 1 k) := hide (elemZ_of 1 k)
  clear hc hc' h
  go_enter Try.func31, Try.ntmps31
  go_wp2_with fail
  refine (HEL.out w (Below.refl _ _) 0 (k : Int)).mono ?_
  rintro e w1 ⟨rfl, hb1⟩
  have HB1 := hide hb1
  clear hb1
  go_wp2_with fail
  refine (HEL.out w1 HB1.out 1 (k : Int)).mono ?_
  rintro e w2 ⟨rfl, hb2⟩
  have HB2 := hide (HB1.out.trans (hb2.mono HB1.out.size))
  clear hb2
  go_wp2_with fail
  refine (HEL.out w2 HB2.out 0 ((k : Int) - 1)).mono ?_
  rintro e w3 ⟨rfl, hb3⟩
  have HB3 := hide (HB2.out.trans (hb3.mono HB2.out.size))
  clear hb3 HB1 HB2
  rw [HE0.out, HE1.out]
  go_wp2_with fail
  refine (HP.out w3).mono ?_
  rintro e w4 ⟨rfl, rfl⟩
  have hcs : p = 0 ∨ p = 1 ∨ p = 2 ∨ p = 3 ∨ p = 4 ∨ p = 5 ∨ p = 6 ∨ p = 7 ∨ p = 8 := by omega
  rcases hcs with rfl | rfl | rfl | rfl | rfl | rfl | rfl | rfl | rfl
  · have HF : Hid (endsF 0 ins k = (sumF ins (k + 1), 0)) := hide rfl
    go_wp2
    go_loopw [11, 12] (fun vn vj wr => ∃ j : Nat, j ≤ k + 1 ∧ vn = .int .i64 (sumF ins j) ∧ vj = .int .i64 j ∧ Below w.heap.size w wr) (fun _ vj _ => k + 1 - (intOf vj).toNat)
    case atStart => exact ⟨0, Nat.zero_le _, rfl, rfl, by first | exact HB3.out | exact below_drewN HB3.out _⟩
    case round =>
      obtain ⟨j, hj, rfl, rfl, hbj⟩ := hrel
      have HBJ := hide hbj
      clear hbj
      by_cases hjk : j ≤ k
      · have z1 : (j : Int) ≤ (k : Int) := by omega
        have HS : Hid (sumF ins (j + 1) = w64 (sumF ins j + elemZ ins 0 (j : Int))) := hide (by rw [elemZ_of]; rfl)
        generalize sumF ins j = sj at HS ⊢
        go_wp2_with fail
        refine (HEL.out _ (by first | exact HBJ.out | exact below_drewN HBJ.out _) 0 (j : Int)).mono ?_
        rintro e w5 ⟨rfl, hb5⟩
        have HB5 : Hid (Below w.heap.size w w5) := hide (by first | exact HBJ.out.trans (hb5.mono HBJ.out.size) | exact (below_drewN HBJ.out _).trans (hb5.mono HBJ.out.size))
        clear hb5
        go_wp2
        go_roundw
        case rel => exact ⟨j + 1, by omega, by rw [HS.out]; rfl, by go_num, by first | exact HB5.out | exact below_drewN HB5.out _⟩
        case measure => simp [intOf]; omega
      · have ej : j = k + 1 := by omega
        subst ej
        have z1 : ¬ ((k + 1 : Nat) : Int) ≤ (k : Int) := by omega
        go_wp2
        go_ret2
        exact ⟨by rw [HF.out]; rfl, HBJ.out⟩
  · have HF : Hid (endsF 1 ins k = if elemF ins 1 k = 0 then (0, elemF ins 0 k) else (w64 ((elemF ins 0 k).tdiv (elemF ins 1 k)), (elemF ins 0 k).tmod (elemF ins 1 k))) := hide rfl
    generalize elemF ins 0 k = a at *
    generalize elemF ins 1 k = b at *
    by_cases hb : b = 0
    · have q : (b == 0) = true := by rw [hb]; rfl
      have HB := hide hb
      clear hb
      go_wp2
      go_ret2
      exact ⟨by rw [HF.out, if_pos HB.out]; rfl, HB3.out⟩
    · have q : (b == 0) = false := by rw [beq_eq_false_iff_ne]; exact hb
      have HL : Hid (endsF 1 ins k = (w64 (a.tdiv b), a.tmod b)) := hide (by rw [HF.out, if_neg hb])
      clear HF
      go_wp2_with fail
      go_quiet (fail)
      go_wp2
      go_ret2
      exact ⟨by rw [HL.out]; rfl, by first | exact HB3.out | exact below_drewN HB3.out _⟩
  · have HF : Hid (endsF 2 ins k = (dlF 7 (elemZ ins 0 ((k : Int) - 1)) k 1, dlF 8 (dlF 7 (elemZ ins 0 ((k : Int) - 2)) k 2) k 1)) := hide rfl
    have HD := hide (fun W v x n => kdelayed_any W v x k n)
    go_wp2_with fail
    refine (HD.out _ 7 (elemZ ins 0 ((k : Int) - 1)) 1).mono ?_
    rintro e w5 ⟨rfl, rfl⟩
    go_wp2_with fail
    refine (HEL.out _ (by first | exact HB3.out | exact below_drewN HB3.out _) 0 ((k : Int) - 2)).mono ?_
    rintro e w6 ⟨rfl, hb6⟩
    have HB6 : Hid (Below w.heap.size w w6) := hide (by first | exact HB3.out.trans (hb6.mono HB3.out.size) | exact (below_drewN HB3.out _).trans (hb6.mono HB3.out.size))
    clear hb6
    go_wp2_with fail
    refine (HD.out _ 7 (elemZ ins 0 ((k : Int) - 2)) 2).mono ?_
    rintro e w7 ⟨rfl, rfl⟩
    go_wp2_with fail
    refine (HD.out _ 8 _ 1).mono ?_
    rintro e w8 ⟨rfl, rfl⟩
    go_wp2
    go_ret2
    exact ⟨by rw [HF.out]; rfl, by first | exact HB6.out | exact below_drewN HB6.out _⟩
  · have HF : Hid (endsF 3 ins k = if elemF ins 1 k < elemF ins 0 k then (elemF ins 1 k, 0) else (elemF ins 0 k, 0)) := hide rfl
    generalize elemF ins 0 k = a at *
    generalize elemF ins 1 k = b at *
    by_cases hlt : b < a
    · have HL : Hid (endsF 3 ins k = (b, 0)) := hide (by rw [HF.out, if_pos hlt])
      clear HF
      go_wp2
      go_ret2
      exact ⟨by rw [HL.out]; rfl, HB3.out⟩
    · have HL : Hid (endsF 3 ins k = (a, 0)) := hide (by rw [HF.out, if_neg hlt])
      clear HF
      go_wp2
      go_ret2
      exact ⟨by rw [HL.out]; rfl, HB3.out⟩
  · have HF : Hid (endsF 4 ins k = ((k : Int), (k : Int) + 1)) := hide rfl
    go_wp2
    go_ret2
    exact ⟨by rw [HF.out]; rfl, HB3.out⟩
  · have HF : Hid (endsF 5 ins k = fibP k) := hide rfl
    go_wp2
    go_loopw [13, 14, 15] (fun vf vg vj wr => ∃ j : Nat, j ≤ k ∧ vf = .int .i64 (fibP j).1 ∧ vg = .int .i64 (fibP j).2 ∧ vj = .int .i64 j ∧ Below w.heap.size w wr) (fun _ _ vj _ => k - (intOf vj).toNat)
    case atStart => exact ⟨0, Nat.zero_le _, rfl, rfl, rfl, by first | exact HB3.out | exact below_drewN HB3.out _⟩
    case round =>
      obtain ⟨j, hj, rfl, rfl, rfl, hbj⟩ := hrel
      have HBJ := hide hbj
      clear hbj
      by_cases hjk : j < k
      · have z1 : (j : Int) < (k : Int) := by omega
        have HS : Hid (fibP (j + 1) = ((fibP j).2, w64 ((fibP j).1 + (fibP j).2))) := hide rfl
        generalize fibP j = fj at HS ⊢
        obtain ⟨f1, f2⟩ := fj
        go_wp2
        go_roundw
        case rel => exact ⟨j + 1, by omega, by rw [HS.out], by rw [HS.out]; rfl, by go_num, by first | exact HBJ.out | exact below_drewN HBJ.out _⟩
        case measure => simp [intOf]; omega
      · have ej : j = k := by omega
        subst ej
        have z1 : ¬ (j : Int) < (j : Int) := by omega
        go_wp2
        go_ret2
        exact ⟨by rw [HF.out]; rfl, HBJ.out⟩
  · have HF : Hid (endsF 6 ins k = (b2i (decide (elemF ins 0 k = elemZ ins 0 ((k : Int) - 1)) || decide (elemF ins 0 k ≥ 0)), b2i (decide (elemF ins 0 k = elemZ ins 0 ((k : Int) - 1)) || decide (elemF ins 0 k ≥ 0)))) := hide rfl
    generalize elemF ins 0 k = a at *
    generalize elemZ ins 0 ((k : Int) - 1) = b at *
    have HT := hide (fun W x => ktruth_any W x)
    by_cases hab : a = b
    · have q : (a == b) = true := by rw [hab]; simp
      have HQ : Hid ((decide (a = b) || decide (a ≥ 0)) = true) := hide (by rw [decide_eq_true hab]; rfl)
      clear hab
      go_wp2_with fail
      refine (HT.out _ _).mono ?_
      rintro e w5 ⟨rfl, rfl⟩
      go_wp2
      go_ret2
      exact ⟨by rw [HF.out, HQ.out]; rfl, by first | exact HB3.out | exact below_drewN HB3.out _⟩
    · have q : (a == b) = false := by rw [beq_eq_false_iff_ne]; exact hab
      have HQ : Hid ((decide (a = b) || decide (a ≥ 0)) = decide (0 ≤ a)) := hide (by rw [decide_eq_false hab]; rfl)
      clear hab
      go_wp2_with fail
      refine (HT.out _ _).mono ?_
      rintro e w5 ⟨rfl, rfl⟩
      go_wp2
      go_ret2
      exact ⟨by rw [HF.out, HQ.out]; rfl, by first | exact HB3.out | exact below_drewN HB3.out _⟩
  · have HF : Hid (endsF 7 ins k = if k < 3 then ((k : Int) + 1, 0) else (elemF ins 0 (k - 3), 0)) := hide rfl
    by_cases hk3 : k < 3
    · have z1 : (k : Int) < 3 := by omega
      have HK := hide hk3
      go_wp2
      go_ret2
      exact ⟨by rw [HF.out, if_pos HK.out]; rfl, HB3.out⟩
    · have z1 : ¬ (k : Int) < 3 := by omega
      have HK := hide hk3
      have HZ : Hid (elemZ ins 0 ((k : Int) - 3) = elemF ins 0 (k - 3)) := hide (by rw [show (k : Int) - 3 = ((k - 3 : Nat) : Int) by omega, elemZ_of])
      go_wp2_with fail
      refine (HEL.out _ (by first | exact HB3.out | exact below_drewN HB3.out _) 0 ((k : Int) - 3)).mono ?_
      rintro e w6 ⟨rfl, hb6⟩
      have HB6 : Hid (Below w.heap.size w w6) := hide (by first | exact HB3.out.trans (hb6.mono HB3.out.size) | exact (below_drewN HB3.out _).trans (hb6.mono HB3.out.size))
      clear hb6
      rw [HZ.out]
      go_wp2
      go_ret2
      exact ⟨by rw [HF.out, if_neg HK.out]; rfl, by first | exact HB6.out | exact below_drewN HB6.out _⟩
  · have HF : Hid (endsF 8 ins k = if k % 2 = 0 then (1, elemF ins 0 k) else (0, w64 (-(elemF ins 0 k)))) := hide rfl
    generalize elemF ins 0 k = a at *
    by_cases hp : k % 2 = 0
    · have q : ((k : Int) % 2 == 0) = true := by rw [show (k : Int) % 2 = 0 by omega]; rfl
      have HK := hide hp
      clear hp
      go_wp2
      go_ret2
      exact ⟨by rw [HF.out, if_pos HK.out]; rfl, HB3.out⟩
    · have q : ((k : Int) % 2 == 0) = false := by rw [beq_eq_false_iff_ne]; omega
      have HK := hide hp
      clear hp
      go_wp2
      go_ret2
      exact ⟨by rw [HF.out, if_neg HK.out]; rfl, HB3.out⟩

end Go.Proofs.Ytmndgoapkmhglaa

/- Known. -/
namespace Go.Proofs.Ytmndgoapkmhglaa
open Go.RowKit
attribute [local go_sem ↓] Go.wp_at_zero Go.wp_at_succ

def kTx (p : Nat) : ByteArray := if p = 0 then kT0 else if p = 1 then kT1 else if p = 2 then kT2 else if p = 3 then kT3 else if p = 4 then kT4 else if p = 5 then kT5 else if p = 6 then kT6 else if p = 7 then kT7 else kT8

/-- what is known of the texts. -/
structure KnP (s : ByteArray) (p m : Nat) (ins : List (List Int)) : Prop where
  ok : textF s = (0, 0)
  two : m = 1 ∨ m = 2
  sz : s.size ≤ 1500
  st : ∀ L, RGood s L → Right (toks s) L → (eqL L).length = m ∧ ∀ k, k ≤ 1000 → sol (toks s) L ins 0 k = (endsF p ins k).1 ∧ (m = 2 → sol (toks s) L ins 1 k = (endsF p ins k).2)

theorem knP (p : Nat) (hp : p < 9) (ins : List (List Int)) (hr : ∀ i k, -9223372036854775808 ≤ elemF ins i k ∧ elemF ins i k ≤ 9223372036854775807) : ∃ m, KnP (kTx p) p m ins := by
  have hcs : p = 0 ∨ p = 1 ∨ p = 2 ∨ p = 3 ∨ p = 4 ∨ p = 5 ∨ p = 6 ∨ p = 7 ∨ p = 8 := by omega
  rcases hcs with rfl | rfl | rfl | rfl | rfl | rfl | rfl | rfl | rfl
  · exact ⟨1, kT0_ok, .inl rfl, by decide, fun L hG hR => by
      obtain ⟨h1, h2⟩ := told kT0_sp kT0_ex hG hR ins
      exact ⟨h1, fun k _ => ⟨k0 h2 k, fun h => by cases h⟩⟩⟩
  · exact ⟨2, kT1_ok, .inr rfl, by decide, fun L hG hR => by
      obtain ⟨h1, h2⟩ := told kT1_sp kT1_ex hG hR ins
      exact ⟨h1, fun k _ => ⟨(k1 h2 hr k).1, fun _ => (k1 h2 hr k).2⟩⟩⟩
  · exact ⟨2, kT2_ok, .inr rfl, by decide, fun L hG hR => by
      obtain ⟨h1, h2⟩ := told kT2_sp kT2_ex hG hR ins
      exact ⟨h1, fun k _ => ⟨(k2 h2 k).1, fun _ => (k2 h2 k).2⟩⟩⟩
  · exact ⟨1, kT3_ok, .inl rfl, by decide, fun L hG hR => by
      obtain ⟨h1, h2⟩ := told kT3_sp kT3_ex hG hR ins
      exact ⟨h1, fun k _ => ⟨k3 h2 k, fun h => by cases h⟩⟩⟩
  · exact ⟨2, kT4_ok, .inr rfl, by decide, fun L hG hR => by
      obtain ⟨h1, h2⟩ := told kT4_sp kT4_ex hG hR ins
      exact ⟨h1, fun k hk => ⟨(k4 h2 k hk).1, fun _ => (k4 h2 k hk).2⟩⟩⟩
  · exact ⟨2, kT5_ok, .inr rfl, by decide, fun L hG hR => by
      obtain ⟨h1, h2⟩ := told kT5_sp kT5_ex hG hR ins
      exact ⟨h1, fun k _ => ⟨(k5 h2 k).1, fun _ => (k5 h2 k).2⟩⟩⟩
  · exact ⟨2, kT6_ok, .inr rfl, by decide, fun L hG hR => by
      obtain ⟨h1, h2⟩ := told kT6_sp kT6_ex hG hR ins
      exact ⟨h1, fun k _ => ⟨(k6 h2 k).1, fun _ => (k6 h2 k).2⟩⟩⟩
  · exact ⟨1, kT7_ok, .inl rfl, by decide, fun L hG hR => by
      obtain ⟨h1, h2⟩ := told kT7_sp kT7_ex hG hR ins
      exact ⟨h1, fun k _ => ⟨k7 h2 k, fun h => by cases h⟩⟩⟩
  · exact ⟨2, kT8_ok, .inr rfl, by decide, fun L hG hR => by
      obtain ⟨h1, h2⟩ := told kT8_sp kT8_ex hG hR ins
      exact ⟨h1, fun k _ => ⟨(k8 h2 k).1, fun _ => (k8 h2 k).2⟩⟩⟩

theorem elem_wf {ins : List (List Int)} (h : ∀ l ∈ ins, ∀ x ∈ l, -9223372036854775808 ≤ x ∧ x ≤ 9223372036854775807) (i k : Nat) : -9223372036854775808 ≤ elemF ins i k ∧ elemF ins i k ≤ 9223372036854775807 := by
  unfold elemF
  rw [List.getD_eq_getElem?_getD, List.getD_eq_getElem?_getD]
  cases h1 : ins[i]? with
  | none => simp only [Option.getD_none, List.getElem?_nil]; exact ⟨by decide, by decide⟩
  | some l =>
    simp only [Option.getD_some]
    cases h2 : l[k]? with
    | none => exact ⟨by decide, by decide⟩
    | some x => exact h l (List.mem_of_getElem? h1) x (List.mem_of_getElem? h2)

set_option maxHeartbeats 2000000 in
set_option maxRecDepth 100000 in
theorem kknown_any (w : World) (c : Int) (hc : -9223372036854775808 ≤ c) (hc' : c ≤ 9223372036854775807) :
    Calls Try.prog 30 #[.int .i64 c] w fun e w' => e = .returned (.string (kTx (pickN c 9))) ∧ Below w.heap.size w w' := by
  have HP := hide (fun W => pick_any c 9 W hc hc' (by omega) (by omega))
  have hlt := pickN_lt c (m := 9) (by omega)
  generalize pickN c 9 = p at HP hlt
  clear hc hc'
  go_enter Try.func30, Try.ntmps30
  go_wp2_with fail
  refine (HP.out _).mono ?_
  rintro e w1 ⟨rfl, rfl⟩
  have hcs : p = 0 ∨ p = 1 ∨ p = 2 ∨ p = 3 ∨ p = 4 ∨ p = 5 ∨ p = 6 ∨ p = 7 ∨ p = 8 := by omega
  clear HP hlt
  rcases hcs with rfl | rfl | rfl | rfl | rfl | rfl | rfl | rfl | rfl
  all_goals
    go_wp2
    go_ret
    exact ⟨rfl, (Below.refl _ _).alloc (Nat.le_refl _) _⟩

set_option maxHeartbeats 8000000 in
set_option maxRecDepth 100000 in
theorem known_any (c : Int) (hc : -9223372036854775808 ≤ c) (hc' : c ≤ 9223372036854775807) (w : World) (A : Option Addr) (C : Nat) (ins : List (List Int)) (AS : Nat → Option Addr) (CS : Nat → Nat) (hA : ArgL w A C ins AS CS) (hwf : ∀ l ∈ ins, ∀ x ∈ l, -9223372036854775808 ≤ x ∧ x ≤ 9223372036854775807) (n0 : Int) (hn0 : -9223372036854775808 ≤ n0) (hn0' : n0 ≤ 9223372036854775807) :
    Calls Try.prog 9 #[.int .i64 c, .slice A ins.length C, .int .i64 n0] w fun e w' => e = .returned (.bool true) ∧ Below w.heap.size w w' := by
  have H1 := hide (pick_any n0 201 w hn0 hn0' (by omega) (by omega))
  have hlt := pickN_lt n0 (m := 201) (by omega)
  generalize pickN n0 201 = n at H1 hlt
  have H2 := hide (kknown_any w c hc hc')
  have hp9 := pickN_lt c (m := 9) (by omega)
  obtain ⟨m, hK⟩ := knP (pickN c 9) hp9 ins (elem_wf hwf)
  have HA := hide hA
  have HEN := hide (fun W (hW : Below w.heap.size w W) k (hk : k ≤ 200) => kends_any W (.slice A ins.length C) ins (hA.below hW).ls c hc hc' k hk)
  generalize pickN c 9 = p at H2 hK HEN
  generalize kTx p = s at H2 hK
  have hsz := hK.sz
  have hs : s.size ≤ maxLen := by unfold maxLen; omega
  have H6 := hide (fun W v h => streams_any s hs W v ins h (n : Int))
  rw [strR_in (by omega), hK.ok] at H6
  obtain ⟨L, hG, hR, _⟩ := good_text (s := s) (by rw [hK.ok])
  obtain ⟨hm, hst⟩ := hK.st L hG hR
  have HQ := hide (fun B w' v h => (strq_in (s := s) (ins := ins) (n := n) (B := B) (w' := w') (v := v) (by omega) h).1 (by rw [hK.ok]) L hG hR)
  rw [hm] at HQ
  have HSE := hide (fun W => seats_any s W (Nat.le_trans hsz (by decide)))
  rw [seats_text hG.sp, List.length_map, hm] at HSE
  have HST := hide hst
  have h12 := hK.two
  have hm0 : 0 < m := by rcases h12 with h | h <;> rw [h] <;> decide
  clear hs hA hn0 hn0' hc hc' hwf hK hG hR hm hst hp9
  go_enter Try.func9, Try.ntmps9
  go_wp2_with fail
  refine H1.out.mono ?_
  rintro e w1 ⟨rfl, rfl⟩
  go_wp2_with fail
  refine H2.out.mono ?_
  rintro e w1 ⟨rfl, hb1⟩
  have HB1 := hide hb1
  clear hb1 H1 H2
  go_wp2_with fail
  refine (H6.out w1 _ (HA.out.below HB1.out).ls).mono ?_
  rintro e w2 ⟨v, rfl, hq, hb2⟩
  have HB2 := hide (HB1.out.trans (hb2.mono HB1.out.size))
  have hrd := HQ.out _ _ _ hq
  clear hb2 hq H6 HQ HB1
  go_wp2_with fail
  refine (HSE.out w2).mono ?_
  rintro e w3 ⟨vw, rfl, how, hb3⟩
  obtain ⟨aw, cw, rfl, _⟩ := own_shape how
  have HB3 := hide (HB2.out.trans (hb3.mono HB2.out.size))
  have hrd3 := hrd.below hb3
  obtain ⟨a, cap, g, AK, CK, rfl, ha, hcl⟩ := hrd3.ex
  have HCL := hide hcl
  obtain ⟨rfl, hgl⟩ := ha hm0
  clear hb3 how hrd hrd3 HSE HB2 hcl ha
  have z0 : ¬ (m : Int) < 1 := by omega
  go_wp2
  go_loopw [11] (fun vi wr => ∃ k : Nat, k ≤ m ∧ vi = .int .i64 k ∧ Below w3.heap.size w3 wr) (fun vi _ => m - (intOf vi).toNat)
  case atStart => exact ⟨0, Nat.zero_le _, rfl, by first | exact Below.refl _ _ | exact below_drewN (Below.refl _ _) _⟩
  case round =>
    obtain ⟨i, hi, rfl, hbr⟩ := hrel
    have HBR := hide hbr
    by_cases him : i < m
    · have x1 := (hbr.cell (p := ⟨g, i, none⟩) hgl).trans (HCL.out i him).1
      have j3 : (0 : Int) ≤ (i : Int) := by omega
      have j4 : (i : Int) < (m : Int) := by omega
      generalize AK i = ai at x1
      generalize CK i = ci at x1
      clear hbr
      go_wp2
      go_roundw
      case rel => exact ⟨i + 1, by omega, by go_num, by first | exact HBR.out | exact below_drewN HBR.out _⟩
      case measure => simp [intOf]; omega
    · have ei : i = m := by omega
      subst ei
      have z1 : ¬ (i : Int) < (i : Int) := by omega
      clear hbr
      go_wp2
      go_loopw [12] (fun vk wx => ∃ k : Nat, k ≤ n ∧ vk = .int .i64 k ∧ Below w3.heap.size w3 wx) (fun vk _ => n - (intOf vk).toNat)
      case atStart => exact ⟨0, Nat.zero_le _, rfl, by first | exact HBR.out | exact below_drewN HBR.out _⟩
      case round =>
        clear HBR
        obtain ⟨k, hk, rfl, hbr⟩ := hrel
        have HBR := hide hbr
        have HBW := hide (HB3.out.trans (hbr.mono HB3.out.size))
        by_cases hkn : k < n
        · obtain ⟨e1, e2⟩ := HST.out k (by omega)
          have HEN1 := hide (HEN.out wr HBW.out k (by omega))
          have hrow : ∀ j, j < i → ∀ W, Below w3.heap.size w3 W → ∃ b o, AK j = some ⟨b, o, none⟩ ∧ W.cell? ⟨g, j, none⟩ = some (.slice (AK j) n (CK j)) ∧ W.cell? ⟨b, o + k, none⟩ = some (.int .i64 (sol (toks s) L ins j k)) := fun j hj W hW => by
            obtain ⟨c1, c2, _⟩ := HCL.out j hj
            obtain ⟨A', C', he, _, hcc⟩ := c2
            have hl := rowF_len (sol (toks s) L ins) j n
            rw [hl] at he
            simp only [Value.slice.injEq, true_and] at he
            obtain ⟨rfl, rfl⟩ := he
            obtain ⟨b, o, h1, h2, h3⟩ := hcc (by omega)
            refine ⟨b, o, h1, (hW.cell (p := ⟨g, j, none⟩) hgl).trans c1, ?_⟩
            rw [hW.cell (p := ⟨b, o + k, none⟩) h2, h3 k (by omega)]
            simp [rowF]
          have HRW := hide hrow
          have j3 : (0 : Int) ≤ (k : Int) := by omega
          have j4 : (k : Int) < (n : Int) := by omega
          generalize endsF p ins k = en at HEN1 e1 e2
          obtain ⟨en1, en2⟩ := en
          simp only at e1 e2
          have HE1 := hide e1
          have HE2 := hide e2
          clear hrow e1 e2 hbr
          go_wp2_with fail
          refine HEN1.out.mono ?_
          rintro e w5 ⟨rfl, hb5⟩
          have HB5 := hide (HBR.out.trans (hb5.mono HBR.out.size))
          clear hb5 HEN1
          obtain ⟨b0, o0, hb0, x1, x2⟩ := HRW.out 0 (by omega) w5 HB5.out
          rw [HE1.out] at x2
          rw [hb0] at x1
          have q2 : (0 : Int) < (i : Int) := by omega
          generalize CK 0 = c0 at x1
          have H12 := hide h12
          clear hb0 h12
          by_cases hi2 : i = 2
          · obtain ⟨b1, o1, hb1, y1, y2⟩ := HRW.out 1 (by omega) w5 HB5.out
            rw [HE2.out hi2] at y2
            rw [hb1] at y1
            generalize CK 1 = c1 at y1
            have q1 : (1 : Int) < (i : Int) := by omega
            clear hb1 hi2
            go_wp2
            go_roundw
            case rel => exact ⟨k + 1, by omega, by go_num, by first | exact HB5.out | exact below_drewN HB5.out _⟩
            case measure => simp [intOf]; omega
          · have q1 : ¬ (1 : Int) < (i : Int) := by have := H12.out; omega
            clear hi2
            go_wp2
            go_roundw
            case rel => exact ⟨k + 1, by omega, by go_num, by first | exact HB5.out | exact below_drewN HB5.out _⟩
            case measure => simp [intOf]; omega
        · have ek : k = n := by omega
          subst ek
          have z2 : ¬ (k : Int) < (k : Int) := by omega
          go_wp2
          go_ret
          exact ⟨rfl, HBW.out⟩

end Go.Proofs.Ytmndgoapkmhglaa
