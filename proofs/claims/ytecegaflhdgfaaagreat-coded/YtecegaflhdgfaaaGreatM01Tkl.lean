import Derived.Test.YtecegaflhdgfaaaGreatM00Cut
namespace Go.Proofs.YtecegaflhdgfaaaGreat
section
variable {k:Nat} {ts ts':List Tk}
end
structure RTk where
 c:Nat
 word:ByteArray
 pos:Nat
 n:Nat
def rtok (t:Tk):RTk:=
 ⟨if t.kind=0 then 101 else if t.kind=1 then 97 else if t.kind=2 then 107 else if t.kind=3 then 110 else if t.kind=4 then 115 else 120,
  if t.kind=1∨t.kind=2∨t.kind=4 then t.text else ⟨#[]⟩,t.pos,if t.kind=3 then valOf t.text.data.toList else 0⟩
def rtoks (s:ByteArray):List RTk:=(toks s).map rtok
def RTk.l (t:RTk):List UInt8:=t.word.data.toList
def rlit (t:RTk):Bool:=t.c == 110 || t.l == kTrue || t.l == kFalse
def rop (l:List UInt8):Bool:=(opOf l).isSome
def insF (t:RTk):List UInt8 × Bool × Bool:=
 if t.l=kNot then ([69],true,true)
 else if t.l=kIf then ([69,69,69],true,true)
 else if rlit t=true then ([76],true,true)
 else if t.c=97 then ([79],true,true)
 else ([69,79],false,t.l == [40])
def ruleF (x:Nat) (t:RTk) (depth:Int):List UInt8 × Bool × Bool:=
 if x=80 then (if t.l=kIn then ([97,59,80],true,true) else ([97,84,81,61,69,59,80],true,t.l == kInt || t.l == kBool))
 else if x=97 then ([],true,t.c == 97)
 else if x=84 then ([],true,t.l == kAt)
 else if x=81 then ([],true,t.c == 110 && decide (t.n<4))
 else if x=69 then (if t.l=[40] then ([73,41],true,decide (depth<16)) else ([],true,rlit t || t.c == 97))
 else if x=73 then insF t
 else if x=76 then ([69],true,rop t.l || t.l == kFby)
 else if x=79 then ([69],true,rop t.l)
 else ([],true,t.c == 115 && ((t.l.getD 0 0).toNat == x))
def W (cl:Nat) (c:UInt8):Bool:=cls c.toNat == cl
def tokW (k:Nat) (w:List UInt8) (cl:Nat):Tk:=⟨kindK w cl,k,⟨w.toArray⟩⟩
def tkL:Nat→Nat→List UInt8→List Tk
 | 0,_,_=>[]
 | _+1,_,[]=>[]
 | f+1,k,c :: r=>
  if cls c.toNat=0 then tkL f (k+1) r
  else if cls c.toNat=1∨cls c.toNat=2 then
   tokW k (c :: r.takeWhile (W (cls c.toNat))) (cls c.toNat) :: tkL f (k+1+(r.takeWhile (W (cls c.toNat))).length) (r.dropWhile (W (cls c.toNat)))
  else tokW k [c] (cls c.toNat) :: tkL f (k+1) r
theorem drop_le (p:UInt8→Bool) (r:List UInt8):(r.dropWhile p).length≤r.length:=by
 have:=List.takeWhile_append_dropWhile (p:=p) (l:=r)
 have h:(r.takeWhile p).length+(r.dropWhile p).length=r.length:=by rw [← List.length_append,this]
 omega
theorem take_drop_len (p:UInt8→Bool) (r:List UInt8):(r.takeWhile p).length+(r.dropWhile p).length=r.length:=by
 rw [← List.length_append,List.takeWhile_append_dropWhile]
theorem tkL_fuel:∀ f g k (l:List UInt8),l.length≤f→l.length≤g→tkL f k l=tkL g k l:=by
 intro f
 induction f with
 | zero=>
  intro g k l h1 h2
  cases l with
  | nil=>cases g <;> rfl
  | cons c r=>simp at h1
 | succ f ih=>
  intro g k l h1 h2
  cases l with
  | nil=>cases g <;> rfl
  | cons c r=>
   cases g with
   | zero=>simp at h2
   | succ g=>
    simp at h1 h2
    have:=drop_le (W (cls c.toNat)) r
    simp only [tkL]
    rw [ih g (k+1) r h1 h2,ih g _ (r.dropWhile (W (cls c.toNat))) (by omega) (by omega)]
def tk (k:Nat) (l:List UInt8):List Tk:=tkL l.length k l
theorem tk_nil (k:Nat):tk k []=[]:=rfl
theorem tk_blank {k:Nat}{c:UInt8}{r:List UInt8} (h:cls c.toNat=0):tk k (c :: r)=tk (k+1) r:=by
 unfold tk;simp only [List.length_cons,tkL];rw [if_pos h]
theorem tk_word {k:Nat}{c:UInt8}{r:List UInt8} (h:cls c.toNat=1∨cls c.toNat=2) :
  tk k (c :: r)=tokW k (c :: r.takeWhile (W (cls c.toNat))) (cls c.toNat) :: tk (k+1+(r.takeWhile (W (cls c.toNat))).length) (r.dropWhile (W (cls c.toNat))):=by
 unfold tk;simp only [List.length_cons,tkL];rw [if_neg (by omega),if_pos h]
 rw [tkL_fuel _ (r.dropWhile (W (cls c.toNat))).length _ _ (drop_le _ _) (Nat.le_refl _)]
theorem tk_one {k:Nat}{c:UInt8}{r:List UInt8} (h:3≤cls c.toNat):tk k (c :: r)=tokW k [c] (cls c.toNat) :: tk (k+1) r:=by
 unfold tk;simp only [List.length_cons,tkL];rw [if_neg (by omega),if_neg (by omega)]
theorem W_self (c:UInt8):W (cls c.toNat) c=true:=by simp [W]
theorem runTo_list (s:ByteArray) (cl:Nat):∀ f k,f=s.size - k→k≤s.size→runTo s cl f k=k+((s.data.toList.drop k).takeWhile (W cl)).length:=by
 intro f
 induction f with
 | zero=>
  intro k h hk
  have:s.data.toList.drop k=[]:=by rw [List.drop_eq_nil_iff];have:s.data.toList.length=s.size:=Array.length_toList;omega
  rw [this];rfl
 | succ f ih=>
  intro k h hk
  have hlen:s.data.toList.length=s.size:=Array.length_toList
  have hk':k<s.data.toList.length:=by omega
  have hb:byt s k=(s.data.toList[k]'hk').toNat:=by
   unfold byt;rw [List.getD_eq_getElem?_getD,List.getElem?_eq_getElem hk'];rfl
  rw [List.drop_eq_getElem_cons hk',List.takeWhile_cons]
  simp only [runTo]
  by_cases hc:cls (byt s k)=cl
  ·rw [if_pos ⟨by omega,hc⟩,ih (k+1) (by omega) (by omega)]
   rw [if_pos (by unfold W;rw [← hb,hc];simp)]
   simp;omega
  ·rw [if_neg (fun x=>hc x.2),if_neg (by unfold W;rw [← hb];simpa using hc)]
   rfl
theorem ba_ext {a b:ByteArray} (h:a.data.toList=b.data.toList):a=b:=by
 cases a;cases b
 congr
 exact Array.toList_inj.1 h
theorem takeWhile_take (p:UInt8→Bool) (r:List UInt8):r.take (r.takeWhile p).length=r.takeWhile p:=by
 induction r with
 | nil=>rfl
 | cons c r ih=>
  rw [List.takeWhile_cons]
  split
  ·simp [ih]
  ·rfl
theorem takeWhile_drop (p:UInt8→Bool) (r:List UInt8):r.drop (r.takeWhile p).length=r.dropWhile p:=by
 induction r with
 | nil=>rfl
 | cons c r ih=>
  rw [List.takeWhile_cons,List.dropWhile_cons]
  split
  ·simp [ih]
  ·rfl
theorem toksFrom_list (s:ByteArray):∀ n k,n=s.size - k→k≤s.size→toksFrom s (s.size - k) k=tk k (s.data.toList.drop k):=by
 intro n
 induction n using Nat.strongRecOn with
 | _ n ih=>
  intro k hn hk
  have hlen:s.data.toList.length=s.size:=Array.length_toList
  by_cases hk':k<s.size
  ·have hk2:k<s.data.toList.length:=by omega
   have hb:byt s k=(s.data.toList[k]'hk2).toNat:=by
    unfold byt;rw [List.getD_eq_getElem?_getD,List.getElem?_eq_getElem hk2];rfl
   rw [List.drop_eq_getElem_cons hk2]
   generalize hcd:s.data.toList[k]'hk2=c at hb
   have htk:∀ e,tokAt s k=tokW k ((s.data.toList.drop k).take (e - k)) (cls c.toNat)∨endOf s k≠e:=by
    intro e
    by_cases he:endOf s k=e
    ·left
     unfold tokAt tokW kindB
     rw [he,hb]
     have hd:(s.extract k e).data.toList=(s.data.toList.drop k).take (e - k):=by
      rw [ByteArray.data_extract,Array.toList_extract,List.extract_eq_take_drop]
     congr 1
     ·rw [hd]
     ·exact ba_ext (by rw [hd])
    ·exact .inr he
   by_cases h0:cls c.toNat=0
   ·rw [toksFrom_blank s k hk' (by rw [hb];exact h0),tk_blank h0]
    exact ih (s.size - (k+1)) (by omega) (k+1) rfl (by omega)
   ·rw [toksFrom_tok s k hk' (by rw [hb];exact h0)]
    by_cases h12:cls c.toNat=1∨cls c.toNat=2
    ·rw [tk_word h12]
     have he:endOf s k=k+1+((s.data.toList.drop (k+1)).takeWhile (W (cls c.toNat))).length:=by
      unfold endOf
      rw [hb,if_pos h12,runTo_list s _ _ (k+1) rfl (by omega)]
     have hle:=endOf_le s k hk'
     have hgt:=endOf_gt s k
     rcases htk _ with h | h
     ·rw [h]
      congr 1
      ·congr 1
       rw [List.drop_eq_getElem_cons hk2,hcd]
       have e1:endOf s k - k=(((s.data.toList.drop (k+1)).takeWhile (W (cls c.toNat))).length)+1:=by omega
       rw [e1,List.take_succ_cons,takeWhile_take]
      ·rw [ih (s.size - endOf s k) (by omega) (endOf s k) rfl hle]
       rw [← he]
       congr 1
       rw [← takeWhile_drop,List.drop_drop]
       congr 1
     ·exact absurd rfl h
    ·have h3:3≤cls c.toNat:=by omega
     rw [tk_one h3]
     have he:endOf s k=k+1:=by unfold endOf;rw [hb,if_neg h12]
     rcases htk (k+1) with h | h
     ·rw [h,he]
      congr 1
      ·congr 1
       rw [List.drop_eq_getElem_cons hk2,hcd]
       have e1:k+1 - k=1:=by omega
       rw [e1];rfl
      ·exact ih (s.size - (k+1)) (by omega) (k+1) rfl (by omega)
     ·exact absurd he h
  ·have:s.data.toList.drop k=[]:=by rw [List.drop_eq_nil_iff];omega
   rw [this,toksFrom_end s _ k (by omega)]
   rfl
theorem toks_list (s:ByteArray):toks s=tk 0 s.data.toList ++ [⟨0,s.size,⟨#[]⟩⟩]:=by
 unfold toks
 have:=toksFrom_list s _ 0 rfl (Nat.zero_le _)
 simp at this
 rw [this]
 rfl
theorem kindK_pos (w:List UInt8) (cl:Nat):kindK w cl≠0:=by
 unfold kindK wordK numK
 split
 ·split
  ·decide
  split <;> decide
 split
 ·split <;> decide
 split <;> decide
theorem tk_kind:∀ n k (l:List UInt8),l.length=n→∀ t∈tk k l,t.kind≠0∧∃ c∈l,t.text.data.toList.head? = some c∧(t.text.data.toList=[c]∨cls c.toNat=1∨cls c.toNat=2):=by
 intro n
 induction n using Nat.strongRecOn with
 | _ n ih=>
  intro k l hn t ht
  cases l with
  | nil=>rw [tk_nil] at ht;simp at ht
  | cons c r=>
   simp only [List.length_cons] at hn
   by_cases h0:cls c.toNat=0
   ·rw [tk_blank h0] at ht
    obtain ⟨h1,d,hd,h2⟩:=ih r.length (by omega) (k+1) r rfl t ht
    exact ⟨h1,d,List.mem_cons_of_mem _ hd,h2⟩
   ·by_cases h12:cls c.toNat=1∨cls c.toNat=2
    ·rw [tk_word h12] at ht
     rcases List.mem_cons.1 ht with rfl | ht
     ·exact ⟨kindK_pos _ _,c,List.mem_cons_self ..,rfl,.inr h12⟩
     ·have hl:=take_drop_len (W (cls c.toNat)) r
      obtain ⟨h1,d,hd,h2⟩:=ih _ (by omega) _ _ rfl t ht
      refine ⟨h1,d,List.mem_cons_of_mem _ ?_,h2⟩
      rw [← List.takeWhile_append_dropWhile (p:=W (cls c.toNat)) (l:=r)]
      exact List.mem_append_right _ hd
    ·rw [tk_one (by omega)] at ht
     rcases List.mem_cons.1 ht with rfl | ht
     ·exact ⟨kindK_pos _ _,c,List.mem_cons_self ..,rfl,.inl rfl⟩
     ·obtain ⟨h1,d,hd,h2⟩:=ih r.length (by omega) (k+1) r rfl t ht
      exact ⟨h1,d,List.mem_cons_of_mem _ hd,h2⟩
end Go.Proofs.YtecegaflhdgfaaaGreat
