import Derived.Test.YtecegaflhdgfaaaGreatRows
import Derived.WalkKit
import Derived.WalkSpells
import Derived.WalkLawsBesides
import Derived.BigQuiet
import Derived.Deep.QuietTactic
import Derived.Test.YtecegaflhdgfaaaGreatM00Cut
import Derived.Test.YtecegaflhdgfaaaGreatM01Tkl
namespace Go.Proofs.YtecegaflhdgfaaaGreat
open Go.RowKit
theorem hide {p:Prop} (h:p):Hid p:=h
theorem ret_intN {k:IntKind}{a b:Int} (h:a=b):Ending.returned (.int k a) = .returned (.int k b):=by rw [h]
theorem wrapI (x:Int) (h : -1000000000≤x) (h2:x≤1000000000):IntKind.i64.wrap x=x:=by
 rw [IntKind.wrap_i64]
 omega
theorem str_yes {t:ByteArray}{l:List UInt8} (h:t.data.toList=l):t.toList=l:=by rw [ByteArray.toList_eq];exact h
theorem str_no {t:ByteArray}{l:List UInt8} (h:t.data.toList≠l):(t.toList == l)=false:=by
 rw [ByteArray.toList_eq];simpa using h
theorem size_len (t:ByteArray):t.data.toList.length=t.size:=Array.length_toList
end Go.Proofs.YtecegaflhdgfaaaGreat
namespace Go.Proofs.YtecegaflhdgfaaaGreat
def DigTok (t:Tk):Prop:=t.kind=3→t.text.size≤18∧∀ c∈t.text.data.toList,48≤c.toNat∧c.toNat≤57
def TsDig (ts:List Tk):Prop:=∀ i,i<ts.length→DigTok (tkAt ts i)
theorem runTo_all (s:ByteArray) (cl:Nat):∀ f k j,k≤j→j<runTo s cl f k→cls (byt s j)=cl∧j<s.size:=by
 intro f
 induction f with
 | zero=>intro k j h1 h2;simp only [runTo] at h2;omega
 | succ f ih=>
  intro k j h1 h2
  simp only [runTo] at h2
  split at h2
  ·rename_i hc
   by_cases e:j=k
   ·subst e;exact ⟨hc.2,hc.1⟩
   ·exact ih (k+1) j (by omega) h2
  ·omega
theorem cls_two {c:Nat} (h:cls c=2):48≤c∧c≤57:=by
 unfold cls at h
 split at h
 ·cases h
 split at h
 ·cases h
 split at h
 ·assumption
 split at h <;> cases h
theorem toks_dig (s:ByteArray):TsDig (toks s):=by
 have key:∀ f k,∀ t∈toksFrom s f k,DigTok t:=by
  intro f
  induction f with
  | zero=>intro k t ht;simp [toksFrom] at ht
  | succ f ih=>
   intro k t ht
   simp only [toksFrom] at ht
   split at ht
   ·rename_i hk
    split at ht
    ·exact ih _ t ht
    ·rcases List.mem_cons.1 ht with rfl | ht
     ·intro hkind
      have hk2:kindK (s.extract k (endOf s k)).data.toList (cls (byt s k))=3:=hkind
      unfold kindK at hk2
      split at hk2
      ·unfold wordK at hk2
       split at hk2
       ·cases hk2
       split at hk2 <;> cases hk2
      split at hk2
      ·rename_i hc2
       unfold numK at hk2
       split at hk2
       ·cases hk2
       rename_i h18
       have hsz:(s.extract k (endOf s k)).data.toList.length=(s.extract k (endOf s k)).size:=size_len _
       refine ⟨by show (s.extract k (endOf s k)).size≤18;omega,?_⟩
       show ∀ c∈(s.extract k (endOf s k)).data.toList,48≤c.toNat∧c.toNat≤57
       intro c hc
       obtain ⟨j,hj,rfl⟩:=List.getElem_of_mem hc
       have hle:=endOf_le s k hk
       have hjs:j<endOf s k - k:=by
        rw [hsz,ByteArray.size_extract] at hj
        omega
       have hkj:k+j<s.size:=by omega
       have hcl:cls (byt s (k+j))=2:=by
        by_cases e:j=0
        ·subst e;exact hc2
        ·have he:endOf s k=runTo s 2 (s.size - (k+1)) (k+1):=by unfold endOf;rw [if_pos (.inr hc2),hc2]
         rw [he] at hjs
         exact (runTo_all s 2 (s.size - (k+1)) (k+1) (k+j) (by omega) (by omega)).1
       have hget:(s.extract k (endOf s k)).data.toList[j]'hj=s.data.toList[k+j]'(by rw [size_len];exact hkj):=by
        simp
       have hb:byt s (k+j)=((s.extract k (endOf s k)).data.toList[j]'hj).toNat:=by
        rw [hget]
        unfold byt
        simp [hkj]
       have h2:=cls_two hcl
       rw [hb] at h2
       exact h2
      ·split at hk2 <;> cases hk2
     ·exact ih _ t ht
   ·simp at ht
 intro i hi
 have hm:tkAt (toks s) i∈toks s:=by
  unfold tkAt
  rw [List.getD_eq_getElem?_getD,List.getElem?_eq_getElem hi]
  exact List.getElem_mem hi
 generalize tkAt (toks s) i=t at hm ⊢
 unfold toks at hm
 rcases List.mem_append.1 hm with h | h
 ·exact key _ _ _ h
 ·simp at h
  rw [h]
  intro hk
  cases hk
theorem size_list (s:ByteArray):s.size=s.data.toList.length:=Array.length_toList.symm
theorem tkAt_left {a b:List Tk}{i:Nat} (h:i<a.length):tkAt (a ++ b) i=tkAt a i:=by
 unfold tkAt;rw [List.getD_eq_getElem?_getD,List.getD_eq_getElem?_getD,List.getElem?_append_left h]
theorem tkAt_mid {a b:List Tk}{t:Tk}:tkAt (a ++ t :: b) a.length=t:=by
 unfold tkAt;rw [List.getD_eq_getElem?_getD,List.getElem?_append_right (Nat.le_refl _)];simp
theorem tkAt_mem {a:List Tk}{i:Nat} (h:i<a.length):tkAt a i∈a:=by
 unfold tkAt;rw [List.getD_eq_getElem?_getD,List.getElem?_eq_getElem h];exact List.getElem_mem h
def Fine (t:Tk):Prop:=
 (∃ cl,(cl=1∨cl=2)∧t.l≠[]∧(∀ c∈t.l,W cl c=true)∧t.kind=kindK t.l cl)∨(∃ c,t.l=[c]∧3≤cls c.toNat∧t.kind=kindK [c] (cls c.toNat))
theorem tw_all (p:UInt8→Bool):∀ r:List UInt8,∀ c∈r.takeWhile p,p c=true:=by
 intro r
 induction r with
 | nil=>intro c hc;simp at hc
 | cons d r ih=>
  intro c hc
  rw [List.takeWhile_cons] at hc
  split at hc
  ·rename_i hd
   rcases List.mem_cons.1 hc with rfl | hc
   ·exact hd
   ·exact ih c hc
  ·simp at hc
theorem tk_fine:∀ n k (l:List UInt8),l.length=n→∀ t∈tk k l,Fine t:=by
 intro n
 induction n using Nat.strongRecOn with
 | _ n ih=>
  intro k l hn t ht
  cases l with
  | nil=>rw [tk_nil] at ht;simp at ht
  | cons c r=>
   simp only [List.length_cons] at hn
   by_cases h0:cls c.toNat=0
   ·rw [tk_blank h0] at ht
    exact ih r.length (by omega) (k+1) r rfl t ht
   ·by_cases h12:cls c.toNat=1∨cls c.toNat=2
    ·rw [tk_word h12] at ht
     rcases List.mem_cons.1 ht with rfl | ht
     ·refine .inl ⟨cls c.toNat,h12,by simp [Tk.l,tokW],?_,by simp [Tk.l,tokW]⟩
      intro d hd
      have hd':d∈c :: r.takeWhile (W (cls c.toNat)):=by simpa [Tk.l,tokW] using hd
      rcases List.mem_cons.1 hd' with rfl | hd'
      ·exact W_self d
      ·exact tw_all _ r d hd'
     ·have hl:=take_drop_len (W (cls c.toNat)) r
      exact ih _ (by omega) _ _ rfl t ht
    ·rw [tk_one (by omega)] at ht
     rcases List.mem_cons.1 ht with rfl | ht
     ·exact .inr ⟨c,by simp [Tk.l,tokW],by omega,by simp [tokW]⟩
     ·exact ih r.length (by omega) (k+1) r rfl t ht
theorem W_cls {cl:Nat}{c:UInt8} (h:W cl c=true):cls c.toNat=cl:=by unfold W at h;simpa using h
end Go.Proofs.YtecegaflhdgfaaaGreat
