import Derived.Test.YtmndgoapkmhglaaDoorRows
import Derived.WalkKit
import Derived.WalkSpells
import Derived.WalkLawsBesides
import Derived.BigQuiet
import Derived.Deep.QuietTactic
import Derived.Test.YtmndgoapkmhglaaDoorM00Cut
import Derived.Test.YtmndgoapkmhglaaDoorM01Tkl
namespace Go.Proofs.YtmndgoapkmhglaaDoor
open Go.RowKit

theorem hide {p : Prop} (h : p) : Hid p := h
theorem ret_intN {k : IntKind} {a b : Int} (h : a = b) : Ending.returned (.int k a) = .returned (.int k b) := by rw [h]


theorem wrapI (x : Int) (h : -1000000000 ≤ x) (h2 : x ≤ 1000000000) : IntKind.i64.wrap x = x := by
  rw [IntKind.wrap_i64]
  omega
/-- a string's test against a constant, both ways. -/
theorem str_yes {t : ByteArray} {l : List UInt8} (h : t.data.toList = l) : t.toList = l := by rw [ByteArray.toList_eq]; exact h
theorem str_no {t : ByteArray} {l : List UInt8} (h : t.data.toList ≠ l) : (t.toList == l) = false := by
  rw [ByteArray.toList_eq]; simpa using h
theorem size_len (t : ByteArray) : t.data.toList.length = t.size := Array.length_toList

end Go.Proofs.YtmndgoapkmhglaaDoor

/- Plain mathematics: tokens of digits. -/
namespace Go.Proofs.YtmndgoapkmhglaaDoor

/-- a token of digits alone. -/
def DigTok (t : Tk) : Prop := t.kind = 3 → t.text.size ≤ 18 ∧ ∀ c ∈ t.text.data.toList, 48 ≤ c.toNat ∧ c.toNat ≤ 57
def TsDig (ts : List Tk) : Prop := ∀ i, i < ts.length → DigTok (tkAt ts i)

/-- the tokens of a text that are numbers are made of digits. -/
theorem runTo_all (s : ByteArray) (cl : Nat) : ∀ f k j, k ≤ j → j < runTo s cl f k → cls (byt s j) = cl ∧ j < s.size := by
  intro f
  induction f with
  | zero => intro k j h1 h2; simp only [runTo] at h2; omega
  | succ f ih =>
    intro k j h1 h2
    simp only [runTo] at h2
    split at h2
    · rename_i hc
      by_cases e : j = k
      · subst e; exact ⟨hc.2, hc.1⟩
      · exact ih (k + 1) j (by omega) h2
    · omega

theorem cls_two {c : Nat} (h : cls c = 2) : 48 ≤ c ∧ c ≤ 57 := by
  unfold cls at h
  split at h
  · cases h
  split at h
  · cases h
  split at h
  · assumption
  split at h <;> cases h

theorem toks_dig (s : ByteArray) : TsDig (toks s) := by
  have key : ∀ f k, ∀ t ∈ toksFrom s f k, DigTok t := by
    intro f
    induction f with
    | zero => intro k t ht; simp [toksFrom] at ht
    | succ f ih =>
      intro k t ht
      simp only [toksFrom] at ht
      split at ht
      · rename_i hk
        split at ht
        · exact ih _ t ht
        · rcases List.mem_cons.1 ht with rfl | ht
          · intro hkind
            have hk2 : kindK (s.extract k (endOf s k)).data.toList (cls (byt s k)) = 3 := hkind
            unfold kindK at hk2
            split at hk2
            · unfold wordK at hk2
              split at hk2
              · cases hk2
              split at hk2 <;> cases hk2
            split at hk2
            · rename_i hc2
              unfold numK at hk2
              split at hk2
              · cases hk2
              rename_i h18
              have hsz : (s.extract k (endOf s k)).data.toList.length = (s.extract k (endOf s k)).size := size_len _
              refine ⟨by show (s.extract k (endOf s k)).size ≤ 18; omega, ?_⟩
              show ∀ c ∈ (s.extract k (endOf s k)).data.toList, 48 ≤ c.toNat ∧ c.toNat ≤ 57
              intro c hc
              obtain ⟨j, hj, rfl⟩ := List.getElem_of_mem hc
              have hle := endOf_le s k hk
              have hjs : j < endOf s k - k := by
                rw [hsz, ByteArray.size_extract] at hj
                omega
              have hkj : k + j < s.size := by omega
              have hcl : cls (byt s (k + j)) = 2 := by
                by_cases e : j = 0
                · subst e; exact hc2
                · have he : endOf s k = runTo s 2 (s.size - (k + 1)) (k + 1) := by unfold endOf; rw [if_pos (.inr hc2), hc2]
                  rw [he] at hjs
                  exact (runTo_all s 2 (s.size - (k + 1)) (k + 1) (k + j) (by omega) (by omega)).1
              have hget : (s.extract k (endOf s k)).data.toList[j]'hj = s.data.toList[k + j]'(by rw [size_len]; exact hkj) := by
                simp
              have hb : byt s (k + j) = ((s.extract k (endOf s k)).data.toList[j]'hj).toNat := by
                rw [hget]
                unfold byt
                simp [hkj]
              have h2 := cls_two hcl
              rw [hb] at h2
              exact h2
            · split at hk2 <;> cases hk2
          · exact ih _ t ht
      · simp at ht
  intro i hi
  have hm : tkAt (toks s) i ∈ toks s := by
    unfold tkAt
    rw [List.getD_eq_getElem?_getD, List.getElem?_eq_getElem hi]
    exact List.getElem_mem hi
  generalize tkAt (toks s) i = t at hm ⊢
  unfold toks at hm
  rcases List.mem_append.1 hm with h | h
  · exact key _ _ _ h
  · simp at h
    rw [h]
    intro hk
    cases hk


end Go.Proofs.YtmndgoapkmhglaaDoor
