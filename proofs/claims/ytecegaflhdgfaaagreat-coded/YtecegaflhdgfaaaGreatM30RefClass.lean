import Derived.Test.YtecegaflhdgfaaaGreatM02Tko
import Derived.Test.YtecegaflhdgfaaaGreatM20WrB
import Derived.Test.YtecegaflhdgfaaaGreatM23TabBn
import Derived.Test.YtecegaflhdgfaaaGreatM26ExFo
namespace Go.Proofs.YtecegaflhdgfaaaGreat
open Go.RowKit
attribute [local go_sem ↓] Go.wp_at_zero Go.wp_at_succ


set_option maxHeartbeats 1000000 in
theorem relement_any (w:World) (v:Value) (ins:List (List Int)) (h:LsAt w v ins) (i k:Nat) :
  Calls Tryz.prog 31 #[v,.int .i64 (i:Int),.int .i64 (k:Int)] w fun e w'=>e = .returned (.int .i64 (elemF ins i k))∧Below w.heap.size w w':=by
 obtain ⟨A,C,rfl,hm,hc⟩:=h
 by_cases hi:i<ins.length
 ·obtain ⟨b,o,rfl,hb,hr⟩:=hc (by omega)
  obtain ⟨x,hx,A',C',rfl,hm',hc'⟩:=hr i hi
  have j1:¬ (i:Int)<0:=by omega
  have j2:¬ (i:Int) ≥ (ins.length:Int):=by omega
  have j3:¬ (k:Int)<0:=by omega
  have i1:(0:Int)≤(i:Int):=by omega
  have i2:(i:Int)<(ins.length:Int):=by omega
  by_cases hk:k<ins[i].length
  ·obtain ⟨b',o',rfl,hb',hr'⟩:=hc' (by omega)
   have hv:elemF ins i k=ins[i][k]:=by
    unfold elemF
    rw [List.getD_eq_getElem?_getD,List.getD_eq_getElem?_getD,List.getElem?_eq_getElem hi,Option.getD_some,List.getElem?_eq_getElem hk,Option.getD_some]
   have hx':=hr' k hk
   have HV:=hide hv
   have k1:(0:Int)≤(k:Int):=by omega
   generalize ins[i][k]=z at hx' HV
   have k2:(k:Int)<(ins[i].length:Int):=by omega
   have k3:¬ (k:Int) ≥ (ins[i].length:Int):=by omega
   clear hv hc hc' hr hr' hk
   generalize ins[i].length=n at *
   go_enter Tryz.func31,Tryz.ntmps31
   go_wp2
   go_ret
   exact ⟨by rw [HV.out];rfl,Below.refl _ _⟩
  ·have hv:elemF ins i k=0:=by
    unfold elemF
    rw [List.getD_eq_getElem?_getD,List.getD_eq_getElem?_getD,List.getElem?_eq_getElem hi,Option.getD_some,List.getElem?_eq_none (Nat.le_of_not_lt hk)];rfl
   have HV:=hide hv
   have k3:(k:Int) ≥ (ins[i].length:Int):=by omega
   clear hv hc hc' hr
   generalize ins[i].length=n at *
   go_enter Tryz.func31,Tryz.ntmps31
   go_wp2
   go_ret
   exact ⟨by rw [HV.out];rfl,Below.refl _ _⟩
 ·have hv:elemF ins i k=0:=by
   unfold elemF
   have e:ins[i]? = none:=List.getElem?_eq_none (Nat.le_of_not_lt hi)
   rw [List.getD_eq_getElem?_getD,List.getD_eq_getElem?_getD,e];rfl
  have HV:=hide hv
  have j1:¬ (i:Int)<0:=by omega
  have j2:(i:Int) ≥ (ins.length:Int):=by omega
  clear hv hc
  go_enter Tryz.func31,Tryz.ntmps31
  go_wp2
  go_ret
  exact ⟨by rw [HV.out];rfl,Below.refl _ _⟩
end Go.Proofs.YtecegaflhdgfaaaGreat
namespace Go.Proofs.YtecegaflhdgfaaaGreat
open Go.RowKit
def rcl (c:Nat):Nat:=if c=0 then 32 else if c=1 then 97 else if c=2 then 48 else if c=3 then 115 else 120
def rcls (c:Nat):Nat:=rcl (cls c)
def signB:ByteArray:={ data:=#[40,41,59,61,43,45,42,47,60,38,124] }
theorem signB_at:∀ k:Fin 11,(signB[k.1]'(k.2)).toNat=signL.getD k.1 0:=by decide
theorem sign_hit {k c:Nat} (h:k<11) (h1:(((signB[k]'h).toNat:Int) == (c:Int))=true):signL.contains c=true:=by
 have e:=signB_at ⟨k,h⟩
 simp only [beq_iff_eq,Int.natCast_inj] at h1
 simp only at e
 rw [e] at h1
 subst h1
 have:∀ k:Fin 11,signL.contains (signL.getD k.1 0)=true:=by decide
 exact this ⟨k,h⟩
theorem sign_miss {k c:Nat} (h:k<11) (h1:(((signB[k]'h).toNat:Int) == (c:Int))=false):signL.getD k 0≠c:=by
 have e:=signB_at ⟨k,h⟩
 simp only at e
 rw [← e]
 intro h2
 rw [h2] at h1
 simp at h1
theorem sign_none {c:Nat} (h:∀ j,j<11→signL.getD j 0≠c):signL.contains c=false:=by
 rw [List.contains_eq_mem]
 simp only [decide_eq_false_iff_not]
 intro hm
 obtain ⟨j,hj,e⟩:=List.getElem_of_mem hm
 refine h j hj ?_
 rw [List.getD_eq_getElem?_getD,List.getElem?_eq_getElem hj]
 exact e
set_option maxHeartbeats 400000 in
theorem refclass_any (c:Nat) (w:World) :
  Calls Tryz.prog 68 #[.int .u8 (c:Int)] w fun e w'=>e = .returned (.int .u8 (rcls c:Nat))∧w=w':=by
 by_cases h1:97≤c∧c≤122
 ·have HF:Hid (rcls c=97):=hide (by rw [rcls,cls_1 h1.1 h1.2];rfl)
  obtain ⟨h1,h2⟩:=h1
  go_enter Tryz.func68,Tryz.ntmps68
  go_wp2
  go_ret
  exact ⟨by rw [HF.out];rfl,rfl⟩
 by_cases h2:48≤c∧c≤57
 ·have HF:Hid (rcls c=48):=hide (by rw [rcls,cls_2 h2.1 h2.2];rfl)
  obtain ⟨h2,h3⟩:=h2
  clear h1
  go_enter Tryz.func68,Tryz.ntmps68
  go_wp2
  go_ret
  exact ⟨by rw [HF.out];rfl,rfl⟩
 by_cases h3:c=32
 ·subst h3
  go_enter Tryz.func68,Tryz.ntmps68
  go_wp2
  go_ret
  exact ⟨rfl,rfl⟩
 by_cases h4:c=10
 ·subst h4
  go_enter Tryz.func68,Tryz.ntmps68
  go_wp2
  go_ret
  exact ⟨rfl,rfl⟩
 have HF:Hid (rcls c=if signL.contains c then 115 else 120):=hide (by rw [rcls,cls_34 h1 h2 h3 h4];split <;> rfl)
 have k3:((c:Int) == 32)=false:=by simp;omega
 have k4:((c:Int) == 10)=false:=by simp;omega
 have hiv:c<48∨(57<c∧c<97)∨122<c:=by omega
 clear h3 h4 h1 h2
 rcases hiv with h | ⟨h,h'⟩ | h
 all_goals
  go_enter Tryz.func68,Tryz.ntmps68
  go_wp2
  go_loop [4] (fun i=>∃ k:Nat,k≤11∧i = .int .i64 k∧∀ j,j<k→signL.getD j 0≠c) (fun i=>11 - (intOf i).toNat)
  case atStart=>exact ⟨0,by omega,rfl,by intro j hj;omega⟩
  case round=>
   obtain ⟨k,hk,rfl,hne⟩:=hrel
   have HN:=hide hne
   clear hne
   by_cases hlt:k<11
   ·go_wp2
    ·go_ret
     exact ⟨ret_intN (by rw [HF.out,if_pos (sign_hit hlt ‹_›)];rfl),rfl⟩
    ·refine ⟨⟨k+1,by omega,by go_num,fun j hj=>?_⟩,by simp [intOf];omega⟩
     by_cases e:j=k
     ·subst e;exact sign_miss hlt ‹_›
     ·exact HN.out j (by omega)
   ·have ek:k=11:=by omega
    subst ek
    go_wp2
    go_ret
    exact ⟨ret_intN (by rw [HF.out,if_neg (by rw [sign_none HN.out];simp)];rfl),rfl⟩
end Go.Proofs.YtecegaflhdgfaaaGreat
