import Derived.Test.YtmndgoapkmhglabRows
import Derived.WalkKit
import Derived.WalkSpells
import Derived.WalkLawsBesides
import Derived.BigQuiet
import Derived.Deep.QuietTactic
namespace Go.Proofs.Ytmndgoapkmhglab
def byt (s : ByteArray) (k : Nat) : Nat := (s.data.toList.getD k 0).toNat
theorem byt_eq (s : ByteArray) (k : Nat) (h : k < s.size) : (s[k]'h).toNat = byt s k := by
  unfold byt
  have : s.data.toList.getD k 0 = s[k]'h := by
    rw [List.getD_eq_getElem?_getD, Array.getElem?_toList, Array.getElem?_eq_getElem (by simpa using h)]
    rfl
  rw [this]
def signL : List Nat := [40, 41, 59, 61, 43, 45, 42, 47, 60, 38, 124]
def cls (c : Nat) : Nat :=
  if c = 32 ∨ c = 10 then 0 else if 97 ≤ c ∧ c ≤ 122 then 1 else if 48 ≤ c ∧ c ≤ 57 then 2 else if signL.contains c then 3 else 4
theorem cls_1 {c : Nat} (h : 97 ≤ c) (h' : c ≤ 122) : cls c = 1 := by unfold cls; rw [if_neg (by omega), if_pos ⟨h, h'⟩]
theorem cls_2 {c : Nat} (h : 48 ≤ c) (h' : c ≤ 57) : cls c = 2 := by unfold cls; rw [if_neg (by omega), if_neg (by omega), if_pos ⟨h, h'⟩]
theorem cls_le (c : Nat) : cls c ≤ 4 := by
  unfold cls; split; omega; split; omega; split; omega; split <;> omega
def runTo (s : ByteArray) (cl : Nat) : Nat → Nat → Nat
  | 0, k => k
  | f + 1, k => if k < s.size ∧ cls (byt s k) = cl then runTo s cl f (k + 1) else k
theorem runTo_ge (s : ByteArray) (cl : Nat) : ∀ f k, k ≤ runTo s cl f k := by
  intro f
  induction f with
  | zero => intro k; exact Nat.le_refl _
  | succ f ih =>
    intro k
    simp only [runTo]
    split
    · exact Nat.le_trans (Nat.le_succ k) (ih (k + 1))
    · exact Nat.le_refl _
theorem runTo_le (s : ByteArray) (cl : Nat) : ∀ f k, k ≤ s.size → runTo s cl f k ≤ s.size := by
  intro f
  induction f with
  | zero => intro k h; exact h
  | succ f ih =>
    intro k h
    simp only [runTo]
    split
    · rename_i hc
      exact ih (k + 1) hc.1
    · exact h
theorem runTo_step (s : ByteArray) (cl k : Nat) (h : k < s.size) (hc : cls (byt s k) = cl) :
    runTo s cl (s.size - k) k = runTo s cl (s.size - (k + 1)) (k + 1) := by
  have e : s.size - k = (s.size - (k + 1)) + 1 := by omega
  rw [e]
  simp only [runTo]
  rw [if_pos ⟨h, hc⟩]
theorem runTo_stop (s : ByteArray) (cl f k : Nat) (h : ¬ (k < s.size ∧ cls (byt s k) = cl)) : runTo s cl f k = k := by
  cases f with
  | zero => rfl
  | succ f => simp only [runTo]; rw [if_neg h]
def endOf (s : ByteArray) (k : Nat) : Nat :=
  if cls (byt s k) = 1 ∨ cls (byt s k) = 2 then runTo s (cls (byt s k)) (s.size - (k + 1)) (k + 1) else k + 1
theorem endOf_gt (s : ByteArray) (k : Nat) : k < endOf s k := by
  unfold endOf
  split
  · exact runTo_ge s _ _ (k + 1)
  · exact Nat.lt_succ_self k
theorem endOf_le (s : ByteArray) (k : Nat) (h : k < s.size) : endOf s k ≤ s.size := by
  unfold endOf
  split
  · exact runTo_le s _ _ (k + 1) h
  · exact h
def kIn : List UInt8 := [105, 110]
def kInt : List UInt8 := [105, 110, 116]
def kBool : List UInt8 := [98, 111, 111, 108]
def kAt : List UInt8 := [97, 116]
def kIf : List UInt8 := [105, 102]
def kFby : List UInt8 := [102, 98, 121]
def kNot : List UInt8 := [110, 111, 116]
def kTrue : List UInt8 := [116, 114, 117, 101]
def kFalse : List UInt8 := [102, 97, 108, 115, 101]
def keptL : List (List UInt8) := [kIn, kInt, kBool, kAt, kIf, kFby, kNot, kTrue, kFalse]
def wordK (t : List UInt8) : Nat := if keptL.contains t then 2 else if 8 < t.length then 5 else 1
def numK (t : List UInt8) : Nat := if 18 < t.length then 5 else 3
def kindK (t : List UInt8) (cl : Nat) : Nat := if cl = 1 then wordK t else if cl = 2 then numK t else if cl = 3 then 4 else 5
def kindB (t : ByteArray) (cl : Nat) : Nat := kindK t.data.toList cl
structure Tk where
  kind : Nat
  pos : Nat
  text : ByteArray
def tokAt (s : ByteArray) (k : Nat) : Tk := ⟨kindB (s.extract k (endOf s k)) (cls (byt s k)), k, s.extract k (endOf s k)⟩
def toksFrom (s : ByteArray) : Nat → Nat → List Tk
  | 0, _ => []
  | f + 1, k => if k < s.size then (if cls (byt s k) = 0 then toksFrom s f (k + 1) else tokAt s k :: toksFrom s f (endOf s k)) else []
def toks (s : ByteArray) : List Tk := toksFrom s s.size 0 ++ [⟨0, s.size, ByteArray.empty⟩]
theorem toksFrom_fuel (s : ByteArray) : ∀ f k, s.size - k ≤ f → toksFrom s f k = toksFrom s (s.size - k) k := by
  intro f
  induction f using Nat.strongRecOn with
  | _ f ih =>
    intro k h
    cases f with
    | zero =>
      have e : s.size - k = 0 := by omega
      rw [e]
    | succ f =>
      by_cases hk : k < s.size
      · have e : s.size - k = (s.size - (k + 1)) + 1 := by omega
        rw [e]
        simp only [toksFrom]
        rw [if_pos hk, if_pos hk]
        have hg := endOf_gt s k
        rw [ih f (by omega) (k + 1) (by omega), ih f (by omega) (endOf s k) (by omega), ih (s.size - (k + 1)) (by omega) (endOf s k) (by omega)]
      · have e : s.size - k = 0 := by omega
        rw [e]
        simp only [toksFrom]
        rw [if_neg hk]
theorem toksFrom_blank (s : ByteArray) (k : Nat) (h : k < s.size) (hc : cls (byt s k) = 0) :
    toksFrom s (s.size - k) k = toksFrom s (s.size - (k + 1)) (k + 1) := by
  have e : s.size - k = (s.size - (k + 1)) + 1 := by omega
  rw [e]
  simp only [toksFrom]
  rw [if_pos h, if_pos hc]
theorem toksFrom_tok (s : ByteArray) (k : Nat) (h : k < s.size) (hc : cls (byt s k) ≠ 0) :
    toksFrom s (s.size - k) k = tokAt s k :: toksFrom s (s.size - endOf s k) (endOf s k) := by
  have hg := endOf_gt s k
  have e : s.size - k = (s.size - (k + 1)) + 1 := by omega
  rw [e]
  simp only [toksFrom]
  rw [if_pos h, if_neg hc, toksFrom_fuel s _ (endOf s k) (by omega)]
theorem toksFrom_end (s : ByteArray) (f k : Nat) (h : s.size ≤ k) : toksFrom s f k = [] := by
  cases f with
  | zero => rfl
  | succ f => simp only [toksFrom]; rw [if_neg (by omega)]
theorem toksFrom_length (s : ByteArray) : ∀ f k, (toksFrom s f k).length ≤ s.size - k := by
  intro f
  induction f with
  | zero => intro k; simp [toksFrom]
  | succ f ih =>
    intro k
    simp only [toksFrom]
    split
    · split
      · exact Nat.le_trans (ih (k + 1)) (by omega)
      · have := ih (endOf s k)
        have := endOf_gt s k
        simp only [List.length_cons]
        omega
    · exact Nat.zero_le _
def valOf (t : List UInt8) : Nat := t.foldl (fun v d => v * 10 + (d.toNat - 48)) 0
def valN (t : List UInt8) (k : Nat) : Nat := valOf (t.take k)
theorem valN_succ (t : List UInt8) (k : Nat) (h : k < t.length) : valN t (k + 1) = valN t k * 10 + ((t[k]'h).toNat - 48) := by
  unfold valN valOf
  rw [List.take_succ_eq_append_getElem h, List.foldl_append]
  rfl
theorem valN_lt (t : List UInt8) (hd : ∀ c ∈ t, 48 ≤ c.toNat ∧ c.toNat ≤ 57) : ∀ k, k ≤ t.length → valN t k < 10 ^ k := by
  intro k
  induction k with
  | zero => intro _; simp [valN, valOf]
  | succ k ih =>
    intro h
    rw [valN_succ t k h]
    have h1 := ih (by omega)
    have h2 := hd _ (List.getElem_mem (h := h))
    rw [Nat.pow_succ]
    omega
theorem valN_17 (t : List UInt8) (hd : ∀ c ∈ t, 48 ≤ c.toNat ∧ c.toNat ≤ 57) (k : Nat) (h : k ≤ t.length) (hk : k ≤ 17) : valN t k ≤ 99999999999999999 := by
  have h1 := valN_lt t hd k h
  have h2 : 10 ^ k ≤ 10 ^ 17 := Nat.pow_le_pow_right (by omega) hk
  have h3 : (10 : Nat) ^ 17 = 100000000000000000 := by decide
  omega
theorem valN_all (t : List UInt8) : valN t t.length = valOf t := by unfold valN; rw [List.take_length]
end Go.Proofs.Ytmndgoapkmhglab
namespace Go.Proofs.Ytmndgoapkmhglab
open Go.RowKit
theorem hide {p : Prop} (h : p) : Hid p := h
theorem ret_intN {k : IntKind} {a b : Int} (h : a = b) : Ending.returned (.int k a) = .returned (.int k b) := by rw [h]
theorem wrapI (x : Int) (h : -1000000000 ≤ x) (h2 : x ≤ 1000000000) : IntKind.i64.wrap x = x := by
  rw [IntKind.wrap_i64]
  omega
theorem str_yes {t : ByteArray} {l : List UInt8} (h : t.data.toList = l) : t.toList = l := by rw [ByteArray.toList_eq]; exact h
theorem str_no {t : ByteArray} {l : List UInt8} (h : t.data.toList ≠ l) : (t.toList == l) = false := by
  rw [ByteArray.toList_eq]; simpa using h
theorem size_len (t : ByteArray) : t.data.toList.length = t.size := Array.length_toList
end Go.Proofs.Ytmndgoapkmhglab
