import Derived.Deep.Matrix
import Derived.SizedLaws
import Derived.Carry
import Derived.ProofKit
import Derived.Test.YtmndgoapkmhglabM02IntC
import Derived.Test.YtmndgoapkmhglabM30LawP
import Derived.Test.YtmndgoapkmhglabM33MarkA
import Derived.Test.YtmndgoapkmhglabM36JudN
/- Plain mathematics: playable, by the places of a text. -/
namespace Go.Proofs.Ytmndgoapkmhglab
open Go.RowKit

def nextF (sc : List OpF) (i : Nat) : Int := if laterF sc i < 0 then -1 else IntKind.i64.wrap ((actF sc (laterF sc i).toNat).a - (actF sc i).a)
def hereK (ws : List Nat) (q : Int) : Bool := ws.any fun p => ((p : Nat) : Int) == q
def badK (ws : List Nat) (sc : List OpF) (i : Nat) : Bool :=
  !hereK ws (actF sc i).k || decide ((actF sc i).a < 0) || decide (1099511627776 < (actF sc i).a) || decide ((actF sc i).b < 0) || decide (1099511627776 < (actF sc i).b) || decide ((actF sc i).c < 0) || decide (1099511627776 < (actF sc i).c) || backA sc i ||
  (decide (0 ≤ nextF sc i) && (decide (nextF sc i ≤ (actF sc i).b) || decide (nextF sc i ≤ (actF sc i).c)))
def playK (ws : List Nat) (sc : List OpF) : Bool := decide (sc.length ≤ 400) && (List.range sc.length).all fun i => !badK ws sc i

theorem atR_here (ts : List Tk) (L : List Dl) (q : Int) : atR ts L q ≠ [] ↔ hereK (plR ts L) q = true := by
  unfold hereK plR
  rw [List.any_map, List.any_eq_true]
  constructor
  · intro h
    cases hc : atR ts L q with
    | nil => exact absurd hc h
    | cons i r =>
      have hi : i ∈ atR ts L q := by rw [hc]; simp
      unfold atR atG at hi
      rw [List.mem_filter] at hi
      cases hx : (eqL L)[i]? with
      | none => rw [hx] at hi; simp at hi
      | some x =>
        rw [hx] at hi
        exact ⟨x, List.mem_of_getElem? hx, by simpa using hi.2⟩
  · rintro ⟨x, hx, he⟩ hn
    obtain ⟨i, hi, rfl⟩ := List.getElem_of_mem hx
    have : i ∈ atR ts L q := by
      unfold atR atG
      rw [List.mem_filter, List.mem_range]
      refine ⟨hi, ?_⟩
      rw [List.getElem?_eq_getElem hi]
      simpa using he
    rw [hn] at this
    simp at this

theorem badK_iff (ws : List Nat) (sc : List OpF) (i : Nat) : badK ws sc i = false ↔ hereK ws (actF sc i).k = true ∧ (0 ≤ (actF sc i).a ∧ (actF sc i).a ≤ 1099511627776) ∧ (0 ≤ (actF sc i).b ∧ (actF sc i).b ≤ 1099511627776) ∧ (0 ≤ (actF sc i).c ∧ (actF sc i).c ≤ 1099511627776) ∧ backA sc i = false ∧ (0 ≤ nextF sc i → (actF sc i).b < nextF sc i ∧ (actF sc i).c < nextF sc i) := by
  unfold badK
  simp only [Bool.or_eq_false_iff, Bool.and_eq_false_iff, decide_eq_false_iff_not, Bool.not_eq_false']
  constructor
  · rintro ⟨⟨⟨⟨⟨⟨⟨⟨h1, h2⟩, h3⟩, h4⟩, h5⟩, h6⟩, h7⟩, h8⟩, h9⟩
    exact ⟨h1, ⟨by omega, by omega⟩, ⟨by omega, by omega⟩, ⟨by omega, by omega⟩, h8, fun h => by omega⟩
  · rintro ⟨h1, h2, h3, h4, h5, h6⟩
    refine ⟨⟨⟨⟨⟨⟨⟨⟨h1, by omega⟩, by omega⟩, by omega⟩, by omega⟩, by omega⟩, by omega⟩, h5⟩, ?_⟩
    by_cases h : 0 ≤ nextF sc i
    · have := h6 h; exact .inr ⟨by omega, by omega⟩
    · exact .inl h

theorem back_iff (sc : List OpF) (i : Nat) : backA sc i = false ↔ ∀ j, i = j + 1 → (actF sc j).a ≤ (actF sc i).a := by
  cases i with
  | zero => exact ⟨fun _ j e => by omega, fun _ => rfl⟩
  | succ i =>
    unfold backA
    rw [decide_eq_false_iff_not]
    exact ⟨fun h j e => by have : j = i := by omega
                           subst this; omega, fun h => by have := h i rfl; omega⟩

theorem playK_eq (ts : List Tk) (L : List Dl) (sc : List OpF) : playK (plR ts L) sc = playF ts L sc := by
  rw [Bool.eq_iff_iff, play_iff]
  unfold playK
  rw [Bool.and_eq_true, decide_eq_true_iff, List.all_eq_true]
  refine and_congr Iff.rfl ⟨fun h => ?_, fun h i hi => ?_⟩
  · have hk : ∀ i, i < sc.length → badK (plR ts L) sc i = false := fun i hi => by
      have := h i (List.mem_range.2 hi); rwa [Bool.not_eq_true'] at this
    have hmono : ∀ (i j : Nat), i ≤ j → j < sc.length → (actF sc i).a ≤ (actF sc j).a := by
      intro i j hij
      induction j with
      | zero => intro _; have : i = 0 := by omega
                subst this; exact Int.le_refl _
      | succ j ih =>
        intro hj
        rcases Nat.eq_or_lt_of_le hij with rfl | h'
        · exact Int.le_refl _
        · have h1 := ih (by omega) (by omega)
          have h2 := (back_iff sc (j + 1)).1 ((badK_iff _ _ _).1 (hk (j + 1) hj)).2.2.2.2.1 j rfl
          omega
    intro i hi
    obtain ⟨h1, h2, h3, h4, h5, h6⟩ := (badK_iff _ _ _).1 (hk i hi)
    refine ⟨(atR_here ts L _).2 h1, h2, h3, h4, (back_iff sc i).1 h5, ?_⟩
    unfold overA
    by_cases hl : 0 ≤ laterF sc i
    · obtain ⟨m, e, g1, g2⟩ := later_nat sc hi hl
      have hm := ((badK_iff _ _ _).1 (hk m g2)).2.1
      have hmo := hmono i m (by omega) g2
      have hw : IntKind.i64.wrap ((actF sc m).a - (actF sc i).a) = (actF sc m).a - (actF sc i).a := by rw [IntKind.wrap_i64]; omega
      have hn : nextF sc i = (actF sc m).a - (actF sc i).a := by unfold nextF; rw [if_neg (by omega), e, Int.toNat_natCast, hw]
      have := h6 (by omega)
      rw [e, Int.toNat_natCast, hw]
      simp only [Bool.and_eq_false_iff, Bool.or_eq_false_iff, decide_eq_false_iff_not]
      exact .inr ⟨by omega, by omega⟩
    · rw [decide_eq_false hl, Bool.false_and]
  · rw [Bool.not_eq_true', badK_iff]
    have hi' := List.mem_range.1 hi
    have ha := h i hi'
    refine ⟨(atR_here ts L _).1 ha.here, ha.a0, ha.b0, ha.c0, (back_iff sc i).2 ha.back, fun hn => ?_⟩
    by_cases hl : laterF sc i < 0
    · unfold nextF at hn; rw [if_pos hl] at hn; omega
    · obtain ⟨m, e, g1, g2⟩ := later_nat sc hi' (by omega)
      have hov := ha.over
      unfold overA at hov
      have hd : decide (0 ≤ laterF sc i) = true := by simp; omega
      rw [hd, Bool.true_and, Bool.or_eq_false_iff, decide_eq_false_iff_not, decide_eq_false_iff_not] at hov
      unfold nextF
      rw [if_neg hl]
      omega

end Go.Proofs.Ytmndgoapkmhglab

namespace Go.Proofs.Ytmndgoapkmhglab
open Go.RowKit
attribute [local go_sem ↓] Go.wp_at_zero Go.wp_at_succ

theorem check_all (s : ByteArray) (w : World) (hs : s.size ≤ maxLen) :
    Calls Try.prog 25 #[.string s] w fun e w' => e = .returned (.tuple #[.int .i64 ((textF s).1 : Int), .int .i64 ((textF s).2 : Int)]) ∧ Below w.heap.size w w' :=
  check_any s w hs (fun h p hp => good_parse s h p hp)

def ansA : ByteArray := { data := #[105, 110, 32, 97, 59, 105, 110, 116, 32, 120, 32, 97, 116, 32, 48, 61, 40, 97, 43, 40, 48, 32, 102, 98, 121, 32, 120, 41, 41, 59] }
def ansB : ByteArray := { data := #[105, 110, 116, 32, 120, 32, 97, 116, 32, 48, 61, 120, 59] }
theorem ansA_text : textF ansA = (0, 0) := by decide +kernel
theorem ansB_text : textF ansB = (6, 4) := by decide +kernel

set_option maxHeartbeats 1000000 in
set_option maxRecDepth 100000 in
theorem answers_any (w : World) : Calls Try.prog 24 #[] w fun e w' => e = .returned (.bool true) ∧ Below w.heap.size w w' := by
  have cA := check_all ansA w (by decide)
  rw [ansA_text] at cA
  have cB := fun w => check_all ansB w (by decide)
  rw [ansB_text] at cB
  unfold ansA at cA
  unfold ansB at cB
  go_enter Try.func24, Try.ntmps24
  go_wp2_with fail
  refine cA.mono ?_
  rintro e w1 ⟨rfl, hb1⟩
  clear cA
  go_wp2_with fail
  refine (cB _).mono ?_
  rintro e w2 ⟨rfl, hb2⟩
  clear cB
  go_wp2_with fail
  go_ret
  exact ⟨rfl, hb1.trans (hb2.mono hb1.size)⟩

end Go.Proofs.Ytmndgoapkmhglab

/- next, playable: by the places of a right text. -/
namespace Go.Proofs.Ytmndgoapkmhglab
open Go.RowKit
attribute [local go_sem ↓] Go.wp_at_zero Go.wp_at_succ

set_option maxHeartbeats 1000000 in
set_option maxRecDepth 100000 in
theorem knext_any (w : World) (v : Value) (sc : List OpF) (h : OpsAt w v sc) (i : Nat) (hi : i < sc.length) :
    Calls Try.prog 19 #[v, .int .i64 i] w fun e w' => e = .returned (.int .i64 (nextF sc i)) ∧ Below w.heap.size w w' := by
  obtain ⟨A, C, rfl, hm, hc⟩ := h
  obtain ⟨b, o, rfl, hb, hr⟩ := hc (by omega)
  have HR := hide hr
  have hw : IntKind.i64.wrap ((i : Int) + 1) = ((i + 1 : Nat) : Int) := by rw [IntKind.wrap_i64]; omega
  clear hc hr
  go_enter Try.func19, Try.ntmps19
  go_wp2
  go_loopw [5] (fun vk wr => ∃ k : Nat, i < k ∧ k ≤ sc.length ∧ vk = .int .i64 k ∧ Below w.heap.size w wr ∧ laterG sc i (sc.length - k) k = laterF sc i) (fun vk _ => sc.length - (intOf vk).toNat)
  case atStart => exact ⟨i + 1, by omega, by omega, by first | rfl | rw [hw] | simp, Below.refl _ _, rfl⟩
  case round =>
    obtain ⟨k, hik, hk, rfl, hbr, hl⟩ := hrel
    have HL := hide hl
    have HBR := hide hbr
    clear hl
    by_cases hkl : k < sc.length
    · have x1 := (hbr.cell (p := ⟨b, o + k * 4, none⟩) hb).trans (HR.out k hkl).1
      have x2 := (hbr.cell (p := ⟨b, o + i * 4, none⟩) hb).trans (HR.out i hi).1
      have x3 := (hbr.cell (p := ⟨b, o + k * 4 + 1, none⟩) hb).trans (HR.out k hkl).2.1
      have x4 := (hbr.cell (p := ⟨b, o + i * 4 + 1, none⟩) hb).trans (HR.out i hi).2.1
      rw [actF_get hkl] at x1 x3
      rw [actF_get hi] at x2 x4
      have j1 : (0 : Int) ≤ (i : Int) := by omega
      have j2 : (i : Int) < (sc.length : Int) := by omega
      have j3 : (0 : Int) ≤ (k : Int) := by omega
      have j4 : (k : Int) < (sc.length : Int) := by omega
      clear hbr
      by_cases he : (actF sc k).k = (actF sc i).k
      · have HN : Hid (nextF sc i = wrap64 ((actF sc k).a - (actF sc i).a)) := hide (by
          have e : laterF sc i = (k : Int) := by rw [← HL.out, later_step hkl, if_pos he]
          unfold nextF
          rw [e, if_neg (by omega), Int.toNat_natCast, IntKind.wrap_i64]
          unfold wrap64
          omega)
        have q1 : ((actF sc k).k == (actF sc i).k) = true := by rw [he]; simp
        clear he
        go_wp2_with fail
        go_quiet (fail)
        go_wp2_with fail
        first | go_quiet (fail) | skip
        go_wp2
        go_ret
        exact ⟨by rw [HN.out]; rfl, by first | exact HBR.out | exact below_drewN HBR.out _ | exact below_drewN (below_drewN HBR.out _) _⟩
      · have HN : Hid (laterG sc i (sc.length - (k + 1)) (k + 1) = laterF sc i) := hide (by rw [← HL.out, later_step hkl, if_neg he])
        have q1 : ((actF sc k).k == (actF sc i).k) = false := by rw [beq_eq_false_iff_ne]; exact he
        clear he
        go_wp2_with fail
        go_quiet (fail)
        go_wp2
        go_roundw
        case rel => exact ⟨k + 1, by omega, by omega, by go_num, by first | exact HBR.out | exact below_drewN HBR.out _, HN.out⟩
        case measure => simp [intOf]; omega
    · have ek : k = sc.length := by omega
      subst ek
      have z1 : ¬ (sc.length : Int) < (sc.length : Int) := by omega
      have HN : Hid (nextF sc i = -1) := hide (by
        have e : laterF sc i = -1 := by rw [← HL.out, Nat.sub_self]; rfl
        unfold nextF
        rw [e]; rfl)
      go_wp2
      go_ret
      exact ⟨by rw [HN.out]; rfl, by first | exact HBR.out | exact below_drewN HBR.out _⟩

end Go.Proofs.Ytmndgoapkmhglab

/- Plain mathematics: what the program keeps of each link and place while a script is played. -/
namespace Go.Proofs.Ytmndgoapkmhglab
open Go.RowKit

/-- is the slot of a link full; is what was published last on it not taken yet? -/
def fullN (N : List LnF) (P : PastF) (l : Nat) : Bool := decide (cntF P (lnAt N l).dst 1 < tkF l P + lateN N l)
def untN (N : List LnF) (P : PastF) (l : Nat) : Bool := decide (tkF l P < cntF P (lnAt N l).src 2)
def comesN (N : List LnF) (P : PastF) (l : Nat) : Int := comesF (lnAt N l).src P 0
def knownN (P : PastF) (l : Nat) : Int := knownF l P 0
def holdsN (P : PastF) (pl : Int) : Bool := decide (cntF P pl 2 < cntF P pl 1)
/-- when a place has taken what has come. -/
def fullT (N : List LnF) (P : PastF) (a : OpF) (l : Nat) : Bool := fullN N P l || canF N P a l
def untT (N : List LnF) (P : PastF) (a : OpF) (l : Nat) : Bool := untN N P l && !canF N P a l
def knownT (N : List LnF) (P : PastF) (a : OpF) (l : Nat) : Int := if canF N P a l then a.a + a.b else knownN P l

theorem wake_k (N : List LnF) (V : Int → Nat → List Int) (P : PastF) (a : OpF) : (wakeF N V P a).k = a.k ∧ (wakeF N V P a).a = a.a ∧ (wakeF N V P a).took = tookF N P a := ⟨rfl, rfl, rfl⟩

section
variable {N : List LnF} {P : PastF} {a : OpF} (hO : PastOk N P a.a) (hI : RunInv N P)
include hO hI

theorem can_same {l : Nat} (hl : l < N.length) : canF N P a l = (decide ((lnAt N l).dst = a.k) && !fullN N P l && untN N P l && decide (comesN N P l ≤ a.a)) := by
  have hs := hI.slot l hl
  rw [Bool.eq_iff_iff, can_iff hO hI hl]
  unfold fullN untN comesN
  simp only [Bool.and_eq_true, decide_eq_true_eq, Bool.not_eq_true', decide_eq_false_iff_not]
  constructor
  · rintro ⟨h1, h2, h3, h4⟩
    rw [h1]
    exact ⟨⟨⟨rfl, by omega⟩, h2⟩, h3⟩
  · rintro ⟨⟨⟨h1, h2⟩, h3⟩, h4⟩
    rw [h1] at hs h2
    exact ⟨h1, h3, h4, by omega⟩

theorem ready_same : readyF N P a = (!holdsN P a.k && (List.range N.length).all fun l => !decide ((lnAt N l).dst = a.k) || fullT N P a l) := by
  have ht := hI.turn a.k
  rw [Bool.eq_iff_iff, ready_iff hO hI, Bool.and_eq_true, List.all_eq_true]
  unfold holdsN
  rw [Bool.not_eq_true', decide_eq_false_iff_not]
  refine and_congr (by omega) ⟨fun h l hl => ?_, fun h l hl hd => ?_⟩
  · rw [List.mem_range] at hl
    by_cases hd : (lnAt N l).dst = a.k
    · have h1 := h l hl hd
      have hs := hI.slot l hl
      unfold fullT fullN
      rw [hd] at hs ⊢
      simp only [decide_true, Bool.not_true, Bool.false_or]
      by_cases hc : canF N P a l = true
      · rw [hc, Bool.or_true]
      · rw [if_neg hc] at h1
        rw [Bool.or_eq_true, decide_eq_true_eq]
        exact .inl (by omega)
    · simp [hd]
  · have h1 := h l (List.mem_range.2 hl)
    have hs := hI.slot l hl
    unfold fullT fullN at h1
    rw [hd] at hs h1
    simp only [decide_true, Bool.not_true, Bool.false_or, Bool.or_eq_true, decide_eq_true_eq] at h1
    by_cases hc : canF N P a l = true
    · have := ((can_iff hO hI hl).1 hc).2.2.2
      rw [if_pos hc]; omega
    · rw [if_neg hc]
      rcases h1 with h1 | h1
      · omega
      · exact absurd h1 hc

theorem free_same (hA : Apart N) (h0 : 0 ≤ a.a) : freeF N P a = (holdsN P a.k && (List.range N.length).all fun l => !decide ((lnAt N l).src = a.k) || (!untT N P a l && decide (knownT N P a l ≤ a.a))) := by
  have ht := hI.turn a.k
  rw [Bool.eq_iff_iff, free_iff hO hI, Bool.and_eq_true, List.all_eq_true]
  unfold holdsN
  rw [decide_eq_true_iff]
  have hcn : ∀ l, l < N.length → (lnAt N l).src = a.k → canF N P a l = false := fun l hl hd => by
    rw [Bool.eq_false_iff]
    intro hc
    exact hA l hl (hd.trans ((can_iff hO hI hl).1 hc).1.symm)
  refine and_congr (by omega) ⟨fun h l hl => ?_, fun h l hl hd => ?_⟩
  · rw [List.mem_range] at hl
    by_cases hd : (lnAt N l).src = a.k
    · obtain ⟨h1, h2⟩ := h l hl hd
      unfold untT untN knownT knownN
      rw [hcn l hl hd, hd]
      simp only [decide_true, Bool.not_true, Bool.false_or, Bool.not_false, Bool.and_true, Bool.and_eq_true, Bool.not_eq_true', decide_eq_false_iff_not, decide_eq_true_eq, Bool.false_eq_true, if_false]
      refine ⟨by omega, ?_⟩
      rcases h2 with h2 | h2
      · exact h2
      · rw [known_zero l P (fun x hx => (hO.took x hx).1) h2]; exact h0
    · simp [hd]
  · have h1 := h l (List.mem_range.2 hl)
    have hs := hI.sent l hl
    unfold untT untN knownT knownN at h1
    rw [hcn l hl hd, hd] at h1
    simp only [decide_true, Bool.not_true, Bool.false_or, Bool.not_false, Bool.and_true, Bool.and_eq_true, Bool.not_eq_true', decide_eq_false_iff_not, decide_eq_true_eq, Bool.false_eq_true, if_false] at h1
    rw [hd] at hs
    exact ⟨by omega, .inl h1.2⟩

variable (V : Int → Nat → List Int)
theorem full_next {l : Nat} (hl : l < N.length) : fullN N (P ++ [(a, wakeF N V P a)]) l = if (wakeF N V P a).did = 1 ∧ (lnAt N l).dst = a.k then false else fullT N P a l := by
  have hs := hI.slot l hl
  unfold fullN
  rw [cnt_next, tk_next N V P a hl]
  by_cases h : a.k = (lnAt N l).dst ∧ (wakeF N V P a).did = 1
  · rw [if_pos h, show (if (wakeF N V P a).did = 1 ∧ (lnAt N l).dst = a.k then false else fullT N P a l) = false from if_pos ⟨h.2, h.1.symm⟩, decide_eq_false_iff_not]
    have hr : readyF N P a = true := by
      rcases did_cases N V P a with ⟨hr, _⟩ | ⟨_, _, hd⟩ | ⟨_, _, hd⟩
      · exact hr
      · rw [h.2] at hd; cases hd
      · rw [h.2] at hd; cases hd
    have := ((ready_iff hO hI).1 hr).2 l hl h.1.symm
    rw [← h.1]; omega
  · rw [if_neg h, show (if (wakeF N V P a).did = 1 ∧ (lnAt N l).dst = a.k then false else fullT N P a l) = fullT N P a l from if_neg (fun e => h ⟨e.2.symm, e.1⟩)]
    unfold fullT fullN
    by_cases hc : canF N P a l = true
    · obtain ⟨h1, _, _, h4⟩ := (can_iff hO hI hl).1 hc
      rw [if_pos hc, hc, Bool.or_true, decide_eq_true_iff, h1]; omega
    · rw [if_neg hc]
      rw [Bool.not_eq_true] at hc
      rw [hc, Bool.or_false, Nat.add_zero, Nat.add_zero]

omit hO hI in
theorem comes_next (l : Nat) : comesN N (P ++ [(a, wakeF N V P a)]) l = if (wakeF N V P a).did = 2 ∧ (lnAt N l).src = a.k then a.a + a.c else comesN N P l := by
  unfold comesN
  rw [comesF_app]
  simp only [comesF]
  have e : isD (lnAt N l).src 2 (a, wakeF N V P a) = decide ((wakeF N V P a).did = 2 ∧ (lnAt N l).src = a.k) := by
    unfold isD
    show (decide (a.k = (lnAt N l).src) && decide ((wakeF N V P a).did = 2)) = _
    rw [Bool.and_comm, ← Bool.decide_and]
    congr 1
    rw [eq_comm (a := a.k)]
  rw [e]
  simp only [decide_eq_true_eq]
  rfl
omit hO hI in
theorem known_next {l : Nat} (hl : l < N.length) : knownN (P ++ [(a, wakeF N V P a)]) l = knownT N P a l := by
  unfold knownN knownT
  rw [knownF_app]
  simp only [knownF]
  have e : (l ∈ (wakeF N V P a).took) ↔ canF N P a l = true := by
    show l ∈ tookF N P a ↔ _
    rw [took_mem]
    exact ⟨fun h => h.2, fun h => ⟨hl, h⟩⟩
  by_cases hc : canF N P a l = true
  · rw [if_pos (e.2 hc), if_pos hc]; rfl
  · rw [if_neg (fun h => hc (e.1 h)), if_neg hc]; rfl
theorem unt_next (hA : Apart N) {l : Nat} (hl : l < N.length) : untN N (P ++ [(a, wakeF N V P a)]) l = if (wakeF N V P a).did = 2 ∧ (lnAt N l).src = a.k then true else untT N P a l := by
  have hs := hI.sent l hl
  unfold untN
  rw [cnt_next, tk_next N V P a hl]
  by_cases h : a.k = (lnAt N l).src ∧ (wakeF N V P a).did = 2
  · rw [if_pos h, show (if (wakeF N V P a).did = 2 ∧ (lnAt N l).src = a.k then true else untT N P a l) = true from if_pos ⟨h.2, h.1.symm⟩, decide_eq_true_iff]
    have hc : ¬ canF N P a l = true := fun hc => hA l hl (h.1.symm.trans ((can_iff hO hI hl).1 hc).1.symm)
    rw [if_neg hc]; omega
  · rw [if_neg h, show (if (wakeF N V P a).did = 2 ∧ (lnAt N l).src = a.k then true else untT N P a l) = untT N P a l from if_neg (fun e => h ⟨e.2.symm, e.1⟩)]
    unfold untT untN
    by_cases hc : canF N P a l = true
    · obtain ⟨_, h2, _, _⟩ := (can_iff hO hI hl).1 hc
      rw [if_pos hc, hc, Bool.not_true, Bool.and_false, decide_eq_false_iff_not]; omega
    · rw [if_neg hc]
      rw [Bool.not_eq_true] at hc
      rw [hc, Bool.not_false, Bool.and_true, Nat.add_zero, Nat.add_zero]

omit hO in
theorem holds_next (pl : Int) : holdsN (P ++ [(a, wakeF N V P a)]) pl = if pl = a.k ∧ (wakeF N V P a).did = 1 then true else if pl = a.k ∧ (wakeF N V P a).did = 2 then false else holdsN P pl := by
  have ht := hI.turn pl
  unfold holdsN
  rw [cnt_next, cnt_next]
  simp only [eq_comm (a := pl)]
  by_cases h1 : a.k = pl ∧ (wakeF N V P a).did = 1
  · have h2 : ¬ (a.k = pl ∧ (wakeF N V P a).did = 2) := fun e => by rw [h1.2] at e; exact absurd e.2 (by decide)
    simp only [if_pos h1, if_neg h2, decide_eq_true_eq]; omega
  · by_cases h2 : a.k = pl ∧ (wakeF N V P a).did = 2
    · simp only [if_neg h1, if_pos h2, decide_eq_false_iff_not]; omega
    · simp only [if_neg h1, if_neg h2, Nat.add_zero]
end

theorem full_start (N : List LnF) (l : Nat) : fullN N [] l = (lnAt N l).late := by
  unfold fullN lateN
  cases (lnAt N l).late <;> simp [cntF, tkF]

end Go.Proofs.Ytmndgoapkmhglab

/- Plain mathematics: playable, and kept to bounds, as the program tells it: by the act of the place ahead. -/
namespace Go.Proofs.Ytmndgoapkmhglab
open Go.RowKit

/-- the last of the first k acts that is of the place of act i. -/
def aheadG (sc : List OpF) (i : Nat) : Nat → Option Nat
  | 0 => none
  | k + 1 => if (actF sc k).k = (actF sc i).k then some k else aheadG sc i k
def aheadP (sc : List OpF) (i : Nat) : Option Nat := aheadG sc i i
theorem aheadG_some {sc : List OpF} {i : Nat} : ∀ {k m : Nat}, aheadG sc i k = some m → m < k ∧ (actF sc m).k = (actF sc i).k ∧ ∀ t, m < t → t < k → (actF sc t).k ≠ (actF sc i).k := by
  intro k
  induction k with
  | zero => intro m h; cases h
  | succ k ih =>
    intro m h
    unfold aheadG at h
    split at h
    · rename_i hk
      cases h
      exact ⟨Nat.lt_succ_self _, hk, fun t h1 h2 => by omega⟩
    · rename_i hk
      obtain ⟨h1, h2, h3⟩ := ih h
      refine ⟨by omega, h2, fun t g1 g2 => ?_⟩
      rcases Nat.lt_succ_iff_lt_or_eq.1 g2 with h' | rfl
      · exact h3 t g1 h'
      · exact hk
theorem aheadG_none {sc : List OpF} {i : Nat} : ∀ {k : Nat}, aheadG sc i k = none → ∀ t, t < k → (actF sc t).k ≠ (actF sc i).k := by
  intro k
  induction k with
  | zero => intro _ t ht; omega
  | succ k ih =>
    intro h t ht
    unfold aheadG at h
    split at h
    · cases h
    · rename_i hk
      rcases Nat.lt_succ_iff_lt_or_eq.1 ht with h' | rfl
      · exact ih h t h'
      · exact hk

theorem laterG_is (sc : List OpF) (i : Nat) : ∀ (f k m : Nat), laterG sc i f k = (m : Int) → k ≤ m ∧ m < k + f ∧ (actF sc m).k = (actF sc i).k ∧ ∀ t, k ≤ t → t < m → (actF sc t).k ≠ (actF sc i).k := by
  intro f
  induction f with
  | zero => intro k m h; unfold laterG at h; omega
  | succ f ih =>
    intro k m h
    unfold laterG at h
    split at h
    · rename_i hk
      have : k = m := by omega
      subst this
      exact ⟨Nat.le_refl _, by omega, hk, fun t h1 h2 => by omega⟩
    · rename_i hk
      obtain ⟨h1, h2, h3, h4⟩ := ih (k + 1) m h
      refine ⟨by omega, by omega, h3, fun t g1 g2 => ?_⟩
      rcases Nat.eq_or_lt_of_le g1 with rfl | h'
      · exact hk
      · exact h4 t h' g2
theorem later_is {sc : List OpF} {i m : Nat} (hi : i < sc.length) (h : laterF sc i = (m : Int)) : i < m ∧ m < sc.length ∧ (actF sc m).k = (actF sc i).k ∧ ∀ t, i < t → t < m → (actF sc t).k ≠ (actF sc i).k := by
  obtain ⟨h1, h2, h3, h4⟩ := laterG_is sc i _ _ m h
  exact ⟨by omega, by omega, h3, fun t g1 g2 => h4 t (by omega) g2⟩

/-- the act ahead and the act behind. -/
theorem ahead_later {sc : List OpF} {i j : Nat} (hj : j < sc.length) : (aheadP sc j = some i) ↔ i < j ∧ laterF sc i = (j : Int) := by
  constructor
  · intro h
    obtain ⟨h1, h2, h3⟩ := aheadG_some h
    refine ⟨h1, ?_⟩
    obtain ⟨m, e, g1, g2, g3⟩ := later_hit sc i (sc.length - (i + 1)) (i + 1) j (by omega) (by omega) h2.symm
    have hm : m = j := by
      rcases Nat.eq_or_lt_of_le g2 with h' | h'
      · exact h'
      · exact absurd (g3.trans h2) (h3 m (by omega) h')
    subst hm
    exact e
  · rintro ⟨hij, h⟩
    obtain ⟨_, _, h3, h4⟩ := later_is (by omega) h
    cases hc : aheadP sc j with
    | none => exact absurd h3.symm (aheadG_none hc i hij)
    | some k =>
      obtain ⟨g1, g2, g3⟩ := aheadG_some hc
      rcases Nat.lt_trichotomy k i with h' | h' | h'
      · exact absurd h3.symm (g3 i h' hij)
      · rw [h']
      · exact absurd (g2.trans h3) (h4 k h' g1)
theorem ahead_first {sc : List OpF} {j : Nat} : aheadP sc j = none ↔ firstF sc j = true := by
  unfold firstF firstG
  rw [List.all_eq_true]
  constructor
  · intro h i hi
    rw [List.mem_range] at hi
    rw [bne_iff_ne]
    exact aheadG_none h i hi
  · intro h
    cases hc : aheadP sc j with
    | none => rfl
    | some k =>
      obtain ⟨g1, g2, _⟩ := aheadG_some hc
      have := h k (List.mem_range.2 g1)
      rw [bne_iff_ne] at this
      exact absurd g2 this

/-- the time of the act before. -/
def lastP (sc : List OpF) : Nat → Int
  | 0 => 0
  | i + 1 => (actF sc i).a
def inB (x l m : Int) : Bool := decide (l ≤ x) && decide (x ≤ m)
def bothB (o : OpF) (l m : Int) : Bool := inB o.b l m && inB o.c l m
theorem inB_iff (x l m : Int) : inB x l m = true ↔ l ≤ x ∧ x ≤ m := by simp [inB]
theorem bothB_iff (o : OpF) (l m : Int) : bothB o l m = true ↔ (l ≤ o.b ∧ o.b ≤ m) ∧ (l ≤ o.c ∧ o.c ≤ m) := by simp [bothB, inB]
def okA (ws : List Nat) (sc : List OpF) (i : Nat) : Bool := hereK ws (actF sc i).k && inB (actF sc i).a (lastP sc i) 1099511627776 && bothB (actF sc i) 0 1099511627776
def apartA (sc : List OpF) (i : Nat) : Bool := match aheadP sc i with
  | none => true
  | some k => bothB (actF sc k) 0 ((actF sc i).a - (actF sc k).a - 1)
def playP (ws : List Nat) (sc : List OpF) : Bool := decide (sc.length ≤ 400) && (List.range sc.length).all (okA ws sc) && (List.range sc.length).all (apartA sc)
def keepA (b : BdF) (sc : List OpF) (i : Nat) : Bool := bothB (actF sc i) b.dmin b.dmax && match aheadP sc i with
  | none => decide ((actF sc i).a ≤ b.tmax)
  | some k => inB ((actF sc i).a - (actF sc k).a) b.tmin b.tmax
def keepP (b : BdF) (sc : List OpF) : Bool := (List.range sc.length).all (keepA b sc)

theorem all_iff {n : Nat} {p : Nat → Bool} : (List.range n).all p = true ↔ ∀ i, i < n → p i = true := by
  rw [List.all_eq_true]
  exact ⟨fun h i hi => h i (List.mem_range.2 hi), fun h i hi => h i (List.mem_range.1 hi)⟩
theorem ok_time {ws : List Nat} {sc : List OpF} {n : Nat} (h : ∀ i, i < n → okA ws sc i = true) : ∀ i, i < n → 0 ≤ (actF sc i).a ∧ (actF sc i).a ≤ 1099511627776 := by
  intro i
  induction i with
  | zero =>
    intro hi
    have := h 0 hi
    unfold okA at this
    rw [Bool.and_eq_true, Bool.and_eq_true, inB_iff] at this
    exact this.1.2
  | succ i ih =>
    intro hi
    have := h (i + 1) hi
    unfold okA at this
    rw [Bool.and_eq_true, Bool.and_eq_true, inB_iff] at this
    have h1 : (actF sc i).a ≤ (actF sc (i + 1)).a := this.1.2.1
    have h2 := ih (by omega)
    exact ⟨by omega, this.1.2.2⟩

theorem playP_eq (ws : List Nat) (sc : List OpF) : playP ws sc = playK ws sc := by
  rw [Bool.eq_iff_iff]
  unfold playP playK
  rw [Bool.and_eq_true, Bool.and_eq_true, Bool.and_eq_true, decide_eq_true_iff, and_assoc]
  refine and_congr Iff.rfl ?_
  rw [all_iff, all_iff, all_iff]
  constructor
  · rintro ⟨h1, h2⟩ i hi
    have ht := ok_time h1
    rw [Bool.not_eq_true', badK_iff]
    have h3 := h1 i hi
    unfold okA at h3
    rw [Bool.and_eq_true, Bool.and_eq_true, inB_iff, bothB_iff] at h3
    refine ⟨h3.1.1, ht i hi, h3.2.1, h3.2.2, (back_iff sc i).2 fun j e => ?_, fun h => ?_⟩
    · subst e; exact h3.1.2.1
    · unfold nextF at h ⊢
      split at h
      · omega
      · rename_i hn
        obtain ⟨m, e, g1, g2⟩ := later_nat sc hi (by omega)
        rw [if_neg hn, e, Int.toNat_natCast]
        have h4 := h2 m g2
        unfold apartA at h4
        rw [(ahead_later g2).2 ⟨g1, e⟩] at h4
        simp only [bothB_iff] at h4
        have t1 := ht i hi
        have t2 := ht m g2
        rw [show IntKind.i64.wrap ((actF sc m).a - (actF sc i).a) = (actF sc m).a - (actF sc i).a by rw [IntKind.wrap_i64]; omega]
        omega
  · intro h
    have hk : ∀ i, i < sc.length → _ := fun i hi => (badK_iff ws sc i).1 (by have := h i hi; rwa [Bool.not_eq_true'] at this)
    refine ⟨fun i hi => ?_, fun i hi => ?_⟩
    · obtain ⟨g1, g2, g3, g4, g5, g6⟩ := hk i hi
      unfold okA
      rw [Bool.and_eq_true, Bool.and_eq_true, inB_iff, bothB_iff]
      refine ⟨⟨g1, ?_, g2.2⟩, g3, g4⟩
      cases i with
      | zero => exact g2.1
      | succ i => exact (back_iff sc (i + 1)).1 g5 i rfl
    · unfold apartA
      cases hc : aheadP sc i with
      | none => rfl
      | some k =>
        obtain ⟨g1, e⟩ := (ahead_later hi).1 hc
        obtain ⟨_, a1, b1, c1, _, h6⟩ := hk k (by omega)
        have a2 := (hk i hi).2.1
        have hm : (actF sc k).a ≤ (actF sc i).a := by
          have : ∀ d, k + d < sc.length → (actF sc k).a ≤ (actF sc (k + d)).a := by
            intro d
            induction d with
            | zero => intro _; exact Int.le_refl _
            | succ d ih =>
              intro hd
              have h7 := ih (by omega)
              have h8 := (back_iff sc (k + d + 1)).1 (hk (k + d + 1) hd).2.2.2.2.1 (k + d) rfl
              exact Int.le_trans h7 h8
          have h9 := this (i - k) (by omega)
          rwa [show k + (i - k) = i by omega] at h9
        have hw : IntKind.i64.wrap ((actF sc i).a - (actF sc k).a) = (actF sc i).a - (actF sc k).a := by rw [IntKind.wrap_i64]; omega
        have hx : nextF sc k = (actF sc i).a - (actF sc k).a := by
          unfold nextF
          rw [e, if_neg (by omega), Int.toNat_natCast, hw]
        rw [hx] at h6
        have h7 := h6 (by omega)
        simp only [bothB_iff]
        omega

theorem keepP_eq {ts : List Tk} {L : List Dl} {b : BdF} {sc : List OpF} (hP : ∀ i, i < sc.length → ActOk ts L sc i) : keepP b sc = true ↔ ∀ i, i < sc.length → badV b sc i = false := by
  have hw : ∀ i j, i < sc.length → j < sc.length → IntKind.i64.wrap ((actF sc j).a - (actF sc i).a) = (actF sc j).a - (actF sc i).a := fun i j hi hj => by
    have h1 := (hP i hi).a0
    have h2 := (hP j hj).a0
    rw [IntKind.wrap_i64]; omega
  unfold keepP
  rw [all_iff]
  constructor
  · intro h i hi
    rw [badV_iff b sc hi]
    have h1 := h i hi
    unfold keepA at h1
    rw [Bool.and_eq_true, bothB_iff] at h1
    refine ⟨fun hf => ?_, h1.1.1, h1.1.2, fun m e => ?_⟩
    · have h2 := h1.2
      rw [ahead_first.2 hf] at h2
      simpa using h2
    · obtain ⟨g1, g2, _⟩ := later_is hi e
      have h2 := h m g2
      unfold keepA at h2
      rw [Bool.and_eq_true, (ahead_later g2).2 ⟨g1, e⟩] at h2
      rw [hw i m hi g2]
      simpa only [inB_iff] using h2.2
  · intro h i hi
    have hv := fun j (hj : j < sc.length) => (badV_iff b sc hj).1 (h j hj)
    unfold keepA
    rw [Bool.and_eq_true, bothB_iff]
    refine ⟨⟨(hv i hi).ack, (hv i hi).data⟩, ?_⟩
    cases hc : aheadP sc i with
    | none => simpa using (hv i hi).first (ahead_first.1 hc)
    | some k =>
      obtain ⟨g1, e⟩ := (ahead_later hi).1 hc
      have := (hv k (by omega)).gap i e
      rw [hw k i (by omega) hi] at this
      simpa only [inB_iff] using this

end Go.Proofs.Ytmndgoapkmhglab

/- an argument that is a list of lists, opened. -/
namespace Go.Proofs.Ytmndgoapkmhglab
open Go.ChangeShapes Go.WideShapes Go.RowKit Go.Deep

theorem Try.cellsInts : Try.prog.cellsOf 38 = 1 := by kernel_rfl
theorem Try.cellsInt : Try.prog.cellsOf 3 = 1 := by kernel_rfl
theorem Try.bytesInts : Try.prog.bytesOf 38 = 24 := by kernel_rfl
theorem Try.bytesInt : Try.prog.bytesOf 3 = 8 := by kernel_rfl
theorem Try.laidOut : laidOutB Try.prog = true := by kernel_rfl

theorem plain_add (b o r : Nat) : (⟨b, o, none⟩ : Addr).add r = ⟨b, o + r, none⟩ := Addr.add_lit b o r

theorem wf_i64 {n : Int} (h : (Lit.int .i64 n).wf = true) : -9223372036854775808 ≤ n ∧ n ≤ 9223372036854775807 := by
  simp only [Lit.wf, Bool.and_eq_true, decide_eq_true_eq] at h
  exact h

theorem spot_none {w : World} {a : Addr} {v : Value} (h : w.cell? (a.add 0) = some v) : a.spot = none := by
  obtain ⟨b, o, sp⟩ := a
  simpa [Addr.add] using World.cell?_spot h

theorem weights_all {H : Type} {P : Program} {e : TypeId} {d : DataW H} : ∀ (l : List (DataW H)), d ∈ l → ∀ n ∈ d.weights P e, n ∈ DataW.weightsAll P e l := by
  intro l
  induction l with
  | nil => intro h; simp at h
  | cons x r ih =>
    intro h n hn
    simp only [DataW.weightsAll, List.mem_append]
    rcases List.mem_cons.1 h with rfl | h
    · exact .inl hn
    · exact .inr (ih h n hn)

set_option maxRecDepth 100000 in
theorem open_lists {H : Type} {enc : TypeId × Value → H} {W : World} {A0 : Option Addr} {len0 cap0 : Nat} {d : DataW H} {ps : List MemPlace} (h : DataW.Trod enc Try.prog W 0 (fun _ => true) true 31 (.slice A0 len0 cap0) d ps)
    (hw : ∀ n ∈ d.weights Try.prog 31, n ≤ reachBytes) :
    ∃ (ins : List (List Int)) (AS : Nat → Option Addr) (CS : Nat → Nat), len0 = ins.length ∧ ArgL W A0 cap0 ins AS CS ∧ ∀ l ∈ ins, ∀ x ∈ l, (Lit.int .i64 x).wf = true := by
  obtain ⟨fuel, hf⟩ := h
  have hrb : reachBytes = 140737488351232 := rfl
  rcases open_int_rows Try.underlying31 Try.underlying38 Try.underlying3 Try.cellsInts Try.cellsInt hf with ⟨hcs, hx⟩ | ⟨a, len, cap, A, L, C, Z, hcs, _, hl, hm, hx, hrows⟩
  · simp [Value.cells] at hcs
    obtain ⟨rfl, rfl, rfl⟩ := hcs
    exact ⟨[], fun _ => none, fun _ => 0, rfl, ⟨by simp, fun _ => rfl, fun hp => by simp at hp, fun r hr => by simp at hr, fun r hr => by simp at hr⟩, fun l hl => by simp at hl⟩
  · simp [Value.cells] at hcs
    obtain ⟨rfl, rfl, rfl⟩ := hcs
    simp only [Prod.mk.injEq] at hx
    obtain ⟨rfl, rfl⟩ := hx
    have hsz : (len0 + (cap0 - len0)) * 24 ≤ reachBytes := by
      have := hw ((len0 + (cap0 - len0)) * 24) (by simp [DataW.weights, Try.underlying31, Try.bytesInts])
      exact this
    have hrow : ∀ r, r < len0 → (A r ≠ none → C r * 8 ≤ reachBytes) := fun r hr hne => by
      obtain ⟨_, h1, _, h2, _, h3, _⟩ := hrows r (by omega)
      refine hw _ ?_
      simp only [DataW.weights, Try.underlying31, List.mem_cons, List.mem_append]
      refine .inr (.inl (weights_all (d := intRow .i64 (A r) (L r) (Z r)) _ (List.mem_map.2 ⟨r, List.mem_range.2 hr, rfl⟩) _ ?_))
      cases hA : A r with
      | none => exact absurd hA hne
      | some a' =>
        simp only [intRow, DataW.weights, Try.underlying38, List.mem_cons]
        refine .inl ?_
        rw [Try.bytesInt]
        simp [lits]
        omega
    have hLl : ∀ r, r < len0 → ((Z r).take (L r)).length = L r := fun r hr => by
      obtain ⟨_, h1, _, h2, _⟩ := hrows r (by omega)
      rw [List.length_take]; omega
    have hget : ∀ r, (hr : r < ((List.range len0).map fun r => (Z r).take (L r)).length) → ((List.range len0).map fun r => (Z r).take (L r))[r] = (Z r).take (L r) := fun r hr => by simp
    refine ⟨(List.range len0).map fun r => (Z r).take (L r), A, C, by simp, ⟨by simp; omega, fun h => (by cases h), fun hp => ?_, fun r hr => ?_, fun r hr => ?_⟩, fun l hl x hx => ?_⟩
    · simp at hp
      obtain ⟨b, o, sp⟩ := a
      have hs : sp = none := spot_none (hrows 0 (by omega)).1
      subst hs
      refine ⟨b, o, rfl, ?_, fun r hr => ?_⟩
      · have := World.block_lt_of_cell? _ _ (hrows 0 (by omega)).1
        simpa [Addr.add] using this
      · have hr' : r < len0 := by simpa using hr
        rw [hget r hr, hLl r hr', ← plain_add]
        exact (hrows r (by omega)).1
    · have hr' : r < len0 := by simpa using hr
      obtain ⟨_, h1, _, h2, _, h3, h4⟩ := hrows r (by omega)
      rw [hget r hr]
      have hCr : A r = none ∨ C r * 8 ≤ reachBytes := by
        by_cases hA : A r = none
        · exact .inl hA
        · exact .inr (hrow r hr' hA)
      refine ⟨⟨A r, C r, by rw [hLl r hr'], ?_, fun hp => ?_⟩, fun hA => ?_, ?_⟩
      · rw [hLl r hr']
        rcases hCr with hA | hC
        · have := h3 hA; omega
        · omega
      · rw [hLl r hr'] at hp
        cases hA : A r with
        | none => have := h3 hA; omega
        | some a' =>
          obtain ⟨_, hcell⟩ := h4 a' hA
          obtain ⟨b, o, sp⟩ := a'
          have hs : sp = none := spot_none (hcell 0 (by omega))
          subst hs
          refine ⟨b, o, rfl, ?_, fun c hc => ?_⟩
          · have := World.block_lt_of_cell? _ _ (hcell 0 (by omega))
            simpa [Addr.add] using this
          · rw [hLl r hr'] at hc
            rw [← plain_add, hcell c (by omega)]
            simp [List.getElem_take, List.getD_eq_getElem?_getD, List.getElem?_eq_getElem (show c < (Z r).length by omega)]
      · have := h3 hA
        rw [List.eq_nil_iff_length_eq_zero, hLl r hr']
        omega
      · rw [hLl r hr']
        rcases hCr with hA | hC
        · have := h3 hA; omega
        · omega
    · have hr' : r < len0 := by simpa using hr
      rw [hget r hr, hLl r hr']
      exact (hrows r (by omega)).2.1
    · obtain ⟨r, hr, rfl⟩ := List.mem_map.1 hl
      obtain ⟨_, _, _, _, h5, _⟩ := hrows r (by have := List.mem_range.1 hr; omega)
      exact h5 x (List.mem_of_mem_take hx)

end Go.Proofs.Ytmndgoapkmhglab
