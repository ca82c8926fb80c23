import Derived.Test.YtmndgoapkmhglabGreatM02BoxC
import Derived.Test.YtmndgoapkmhglabGreatM16RefA
namespace Go.Proofs.YtmndgoapkmhglabGreat
open Go.RowKit
attribute [local go_sem ↓] Go.wp_at_zero Go.wp_at_succ
theorem extract_size (s:ByteArray) (a b:Nat) (hb:b≤s.size):(s.extract a b).size=b - a:=by
 rw [ByteArray.size_extract];omega
theorem byt_ext (s:ByteArray) (a b j:Nat) (hb:b≤s.size) (hj:a+j<b) (h:j<(s.extract a b).data.toList.length):((s.extract a b).data.toList[j]'h).toNat=byt s (a+j):=by
 unfold byt
 have:(s.extract a b).data.toList[j]'h=s.data.toList[a+j]'(by rw [size_len];omega):=by simp
 rw [this]
 have hlt:a+j<s.data.toList.length:=by rw [size_len];omega
 rw [List.getD_eq_getElem?_getD,List.getElem?_eq_getElem hlt]
 rfl
theorem rtok_num (s:ByteArray) (k:Nat) (h:cls (byt s k)=2) :
  (18<(s.extract k (endOf s k)).size→(rtok (tokAt s k)).val = .agg #[.int .u8 120,.string ⟨#[]⟩,.int .i64 (k:Int),.int .i64 0])∧
  (¬ 18<(s.extract k (endOf s k)).size→(rtok (tokAt s k)).val = .agg #[.int .u8 110,.string ⟨#[]⟩,.int .i64 (k:Int),.int .i64 (valOf (s.extract k (endOf s k)).data.toList:Nat)]):=by
 refine ⟨fun h2=>?_,fun h2=>?_⟩
 ·rw [show tokAt s k=⟨5,k,s.extract k (endOf s k)⟩ from by unfold tokAt kindB kindK numK;rw [h,if_neg (by decide),if_pos rfl,if_pos (by rw [size_len];exact h2)]];rfl
 ·rw [show tokAt s k=⟨3,k,s.extract k (endOf s k)⟩ from by unfold tokAt kindB kindK numK;rw [h,if_neg (by decide),if_pos rfl,if_neg (by rw [size_len];exact h2)]];rfl
theorem num_dig (s:ByteArray) (k:Nat) (hk:k<s.size) (h:cls (byt s k)=2):∀ c∈(s.extract k (endOf s k)).data.toList,48≤c.toNat∧c.toNat≤57:=by
 intro c hc
 obtain ⟨j,hj,rfl⟩:=List.getElem_of_mem hc
 have hle:=endOf_le s k hk
 have hsz:(s.extract k (endOf s k)).data.toList.length=endOf s k - k:=by rw [size_len];exact extract_size s k _ hle
 rw [byt_ext s k (endOf s k) j hle (by omega) hj]
 apply cls_two
 by_cases e:j=0
 ·subst e;exact h
 ·have he:endOf s k=runTo s 2 (s.size - (k+1)) (k+1):=by unfold endOf;rw [if_pos (.inr h),h]
  exact (runTo_all s 2 (s.size - (k+1)) (k+1) (k+j) (by omega) (by omega)).1
theorem rtok_word (s:ByteArray) (k:Nat) (h:cls (byt s k)=1) :
  (keptL.contains (s.extract k (endOf s k)).data.toList=true→(rtok (tokAt s k)).val = .agg #[.int .u8 107,.string (s.extract k (endOf s k)),.int .i64 (k:Int),.int .i64 0])∧
  (keptL.contains (s.extract k (endOf s k)).data.toList=false→8<(s.extract k (endOf s k)).size→(rtok (tokAt s k)).val = .agg #[.int .u8 120,.string ⟨#[]⟩,.int .i64 (k:Int),.int .i64 0])∧
  (keptL.contains (s.extract k (endOf s k)).data.toList=false→¬ 8<(s.extract k (endOf s k)).size→(rtok (tokAt s k)).val = .agg #[.int .u8 97,.string (s.extract k (endOf s k)),.int .i64 (k:Int),.int .i64 0]):=by
 refine ⟨fun h1=>?_,fun h1 h2=>?_,fun h1 h2=>?_⟩
 ·rw [show tokAt s k=⟨2,k,s.extract k (endOf s k)⟩ from by unfold tokAt kindB kindK wordK;rw [h,if_pos rfl,if_pos h1]];rfl
 ·rw [show tokAt s k=⟨5,k,s.extract k (endOf s k)⟩ from by unfold tokAt kindB kindK wordK;rw [h,if_pos rfl,if_neg (by rw [h1];simp),if_pos (by rw [size_len];exact h2)]];rfl
 ·rw [show tokAt s k=⟨1,k,s.extract k (endOf s k)⟩ from by unfold tokAt kindB kindK wordK;rw [h,if_pos rfl,if_neg (by rw [h1];simp),if_neg (by rw [size_len];exact h2)]];rfl
set_option maxHeartbeats 2000000 in
set_option maxRecDepth 100000 in
theorem rtoken_any (s:ByteArray) (k:Nat) (w:World) (hs:s.size≤1500) (hk:k<s.size) (hc:cls (byt s k)≠0) :
  Calls Tryz.prog 70 #[.string s,.int .i64 (k:Int)] w fun e w'=>e = .returned (.tuple #[(rtok (tokAt s k)).val,.int .i64 (endOf s k:Nat)])∧Below w.heap.size w w':=by
 have eb:=byt_eq s k hk
 have hle:=endOf_le s k hk
 have hgt:=endOf_gt s k
 have h4:=cls_le (byt s k)
 have i1:(0:Int)≤(k:Int):=by omega
 have i2:(k:Int)<(s.size:Int):=by omega
 have hcc:cls (byt s k)=3∨cls (byt s k)=4∨cls (byt s k)=1∨cls (byt s k)=2:=by omega
 rcases hcc with h | h | h | h
 ·have he:endOf s k=k+1:=by unfold endOf;rw [if_neg (by omega)]
  have HF:Hid ((rtok (tokAt s k)).val = .agg #[.int .u8 115,.string (s.extract k (k+1)),.int .i64 (k:Int),.int .i64 0]∧endOf s k=k+1):=hide ⟨by rw [show tokAt s k=⟨4,k,s.extract k (k+1)⟩ from by unfold tokAt kindB kindK;rw [h,he];rfl];rfl,he⟩
  have hr:rcls (byt s k)=115:=by unfold rcls;rw [h];rfl
  clear h hc h4 hle hgt he
  go_enter Tryz.func70,Tryz.ntmps70
  go_wp2_with (go_at_call 69;refine (refclass_any _ _).mono ?_;rintro e w' ⟨rfl,rfl⟩)
  refine bodyPost_ret (v:=.tuple #[.agg #[.int .u8 115,.string (s.extract k (k+1)),.int .i64 (k:Int),.int .i64 0],.int .i64 ((k:Int)+1)]) (by simp [results,Tryz.results70,go_sem]) rfl ?_
  exact ⟨by rw [HF.out.1,HF.out.2];rfl,(Below.refl _ _).alloc (Nat.le_refl _) _⟩
 ·have he:endOf s k=k+1:=by unfold endOf;rw [if_neg (by omega)]
  have HF:Hid ((rtok (tokAt s k)).val = .agg #[.int .u8 120,.string ⟨#[]⟩,.int .i64 (k:Int),.int .i64 0]∧endOf s k=k+1):=hide ⟨by rw [show tokAt s k=⟨5,k,s.extract k (k+1)⟩ from by unfold tokAt kindB kindK;rw [h,he];rfl];rfl,he⟩
  have hr:rcls (byt s k)=120:=by unfold rcls;rw [h];rfl
  clear h hc h4 hle hgt he
  go_enter Tryz.func70,Tryz.ntmps70
  go_wp2_with (go_at_call 69;refine (refclass_any _ _).mono ?_;rintro e w' ⟨rfl,rfl⟩)
  refine bodyPost_ret (v:=.tuple #[.agg #[.int .u8 120,.string ⟨#[]⟩,.int .i64 (k:Int),.int .i64 0],.int .i64 ((k:Int)+1)]) (by simp [results,Tryz.results70,go_sem]) rfl ?_
  exact ⟨by rw [HF.out.1,HF.out.2];rfl,(Below.refl _ _).alloc (Nat.le_refl _) _⟩
 ·have HE:Hid (endOf s k=runTo s 1 (s.size - (k+1)) (k+1)):=hide (by unfold endOf;rw [if_pos (.inl h),h])
  have HF:=hide (rtok_word s k h)
  have hr:rcls (byt s k)=97:=by unfold rcls;rw [h];rfl
  clear h hc h4 hle hgt
  go_enter Tryz.func70,Tryz.ntmps70
  go_wp2_with (go_at_call 69;refine (refclass_any _ _).mono ?_;rintro e w' ⟨rfl,rfl⟩)
  go_loop [7] (fun i=>∃ j:Nat,k+1≤j∧j≤s.size∧i = .int .i64 j∧endOf s k=runTo s 1 (s.size - j) j) (fun i=>s.size - (intOf i).toNat)
  case atStart=>exact ⟨k+1,Nat.le_refl _,hk,by go_num,HE.out⟩
  case round=>
   obtain ⟨j,hj1,hj2,rfl,hj3⟩:=hrel
   have HJ:=hide hj3
   clear hj3
   by_cases hlt:j<s.size
   ·have ebj:=byt_eq s j hlt
    have h4j:=cls_le (byt s j)
    have i3:(0:Int)≤(j:Int):=by omega
    have i4:(j:Int)<(s.size:Int):=by omega
    by_cases hcj:cls (byt s j)=1
    ·have hrj:rcls (byt s j)=97:=by unfold rcls;rw [hcj];rfl
     have HCJ:=hide hcj
     clear hcj h4j
     go_wp2_with (go_at_call 69;refine (refclass_any _ _).mono ?_;rintro e w' ⟨rfl,rfl⟩)
     go_round
     case rel=>exact ⟨j+1,by omega,by omega,by go_num,by rw [HJ.out,runTo_step s 1 j hlt HCJ.out]⟩
     case measure=>simp [intOf];omega
    ·have hrj:((rcls (byt s j):Int) == 97)=false:=by
      have:=rcl_inj h4j (b:=1) (by omega)
      rw [show ((rcl 1:Nat):Int)=97 from rfl] at this
      unfold rcls;rw [this];simpa using hcj
     have he:endOf s k=j:=by rw [HJ.out];exact runTo_stop s 1 _ j (fun h=>hcj h.2)
     clear hcj h4j
     have HEJ:=hide he
     rw [he] at HF
     have i5:(k:Int)≤(j:Int):=by omega
     have i6:(j:Int)≤(s.size:Int):=by omega
     have hsz:(s.extract k j).size=j - k:=extract_size s k j hj2
     have HSZ:=hide hsz
     clear he hsz
     have i7:(j:Int) - (k:Int)=((j - k:Nat):Int):=by omega
     by_cases hkp:keptL.contains (s.extract k j).data.toList=true
     ·have HV:=HF.out.1 hkp
      have HVH:=hide HV
      clear HV
      go_wp2_with fail
      refine (refclass_any _ _).mono ?_
      rintro e w' ⟨rfl,rfl⟩
      go_wp2_with fail
      refine (rkept_any _ _).mono ?_
      rintro e w' ⟨rfl,rfl⟩
      rw [hkp]
      clear hkp
      go_wp2_with fail
      refine bodyPost_ret (v:=.tuple #[.agg #[.int .u8 107,.string (s.extract k j),.int .i64 (k:Int),.int .i64 0],.int .i64 (j:Int)]) (by simp [results,Tryz.results70,go_sem]) rfl ?_
      exact ⟨by rw [HVH.out,HEJ.out],(Below.refl _ _).alloc (Nat.le_refl _) _⟩
     ·have hkp':keptL.contains (s.extract k j).data.toList=false:=by simpa using hkp
      by_cases h8:8<j - k
      ·have HV:=hide (HF.out.2.1 hkp' (by rw [HSZ.out];exact h8))
       have i8:(8:Int)<((s.extract k j).size:Int):=by rw [HSZ.out];omega
       go_wp2_with fail
       refine (refclass_any _ _).mono ?_
       rintro e w' ⟨rfl,rfl⟩
       go_wp2_with fail
       refine (rkept_any _ _).mono ?_
       rintro e w' ⟨rfl,rfl⟩
       rw [hkp']
       clear hkp hkp'
       go_wp2_with fail
       refine bodyPost_ret (v:=.tuple #[.agg #[.int .u8 120,.string ⟨#[]⟩,.int .i64 (k:Int),.int .i64 0],.int .i64 (j:Int)]) (by simp [results,Tryz.results70,go_sem]) rfl ?_
       exact ⟨by rw [HV.out,HEJ.out],(Below.refl _ _).alloc (Nat.le_refl _) _⟩
      ·have HV:=hide (HF.out.2.2 hkp' (by rw [HSZ.out];exact h8))
       have i8:¬ (8:Int)<((s.extract k j).size:Int):=by rw [HSZ.out];omega
       go_wp2_with fail
       refine (refclass_any _ _).mono ?_
       rintro e w' ⟨rfl,rfl⟩
       go_wp2_with fail
       refine (rkept_any _ _).mono ?_
       rintro e w' ⟨rfl,rfl⟩
       rw [hkp']
       clear hkp hkp'
       go_wp2_with fail
       refine bodyPost_ret (v:=.tuple #[.agg #[.int .u8 97,.string (s.extract k j),.int .i64 (k:Int),.int .i64 0],.int .i64 (j:Int)]) (by simp [results,Tryz.results70,go_sem]) rfl ?_
       exact ⟨by rw [HV.out,HEJ.out],(Below.refl _ _).alloc (Nat.le_refl _) _⟩
   ·have he:endOf s k=j:=by rw [HJ.out];exact runTo_stop s 1 _ j (by omega)
    have HEJ:=hide he
    rw [he] at HF
    have i5:(k:Int)≤(j:Int):=by omega
    have i6:(j:Int)≤(s.size:Int):=by omega
    have hsz:(s.extract k j).size=j - k:=extract_size s k j hj2
    have HSZ:=hide hsz
    clear he hsz
    have i7:(j:Int) - (k:Int)=((j - k:Nat):Int):=by omega
    by_cases hkp:keptL.contains (s.extract k j).data.toList=true
    ·have HV:=HF.out.1 hkp
     have HVH:=hide HV
     clear HV
     go_wp2_with fail
     refine (rkept_any _ _).mono ?_
     rintro e w' ⟨rfl,rfl⟩
     rw [hkp]
     clear hkp
     go_wp2_with fail
     refine bodyPost_ret (v:=.tuple #[.agg #[.int .u8 107,.string (s.extract k j),.int .i64 (k:Int),.int .i64 0],.int .i64 (j:Int)]) (by simp [results,Tryz.results70,go_sem]) rfl ?_
     exact ⟨by rw [HVH.out,HEJ.out],(Below.refl _ _).alloc (Nat.le_refl _) _⟩
    ·have hkp':keptL.contains (s.extract k j).data.toList=false:=by simpa using hkp
     by_cases h8:8<j - k
     ·have HV:=hide (HF.out.2.1 hkp' (by rw [HSZ.out];exact h8))
      have i8:(8:Int)<((s.extract k j).size:Int):=by rw [HSZ.out];omega
      go_wp2_with fail
      refine (rkept_any _ _).mono ?_
      rintro e w' ⟨rfl,rfl⟩
      rw [hkp']
      clear hkp hkp'
      go_wp2_with fail
      refine bodyPost_ret (v:=.tuple #[.agg #[.int .u8 120,.string ⟨#[]⟩,.int .i64 (k:Int),.int .i64 0],.int .i64 (j:Int)]) (by simp [results,Tryz.results70,go_sem]) rfl ?_
      exact ⟨by rw [HV.out,HEJ.out],(Below.refl _ _).alloc (Nat.le_refl _) _⟩
     ·have HV:=hide (HF.out.2.2 hkp' (by rw [HSZ.out];exact h8))
      have i8:¬ (8:Int)<((s.extract k j).size:Int):=by rw [HSZ.out];omega
      go_wp2_with fail
      refine (rkept_any _ _).mono ?_
      rintro e w' ⟨rfl,rfl⟩
      rw [hkp']
      clear hkp hkp'
      go_wp2_with fail
      refine bodyPost_ret (v:=.tuple #[.agg #[.int .u8 97,.string (s.extract k j),.int .i64 (k:Int),.int .i64 0],.int .i64 (j:Int)]) (by simp [results,Tryz.results70,go_sem]) rfl ?_
      exact ⟨by rw [HV.out,HEJ.out],(Below.refl _ _).alloc (Nat.le_refl _) _⟩
 ·have HE:Hid (endOf s k=runTo s 2 (s.size - (k+1)) (k+1)):=hide (by unfold endOf;rw [if_pos (.inr h),h])
  have HF:=hide (rtok_num s k h)
  have HDG:=hide (num_dig s k hk h)
  have hr:rcls (byt s k)=48:=by unfold rcls;rw [h];rfl
  clear h hc h4 hle hgt
  go_enter Tryz.func70,Tryz.ntmps70
  go_wp2_with (go_at_call 69;refine (refclass_any _ _).mono ?_;rintro e w' ⟨rfl,rfl⟩)
  go_loop [7] (fun i=>∃ j:Nat,k+1≤j∧j≤s.size∧i = .int .i64 j∧endOf s k=runTo s 2 (s.size - j) j) (fun i=>s.size - (intOf i).toNat)
  case atStart=>exact ⟨k+1,Nat.le_refl _,hk,by go_num,HE.out⟩
  case round=>
   obtain ⟨j,hj1,hj2,rfl,hj3⟩:=hrel
   have HJ:=hide hj3
   clear hj3
   by_cases hlt:j<s.size
   ·have ebj:=byt_eq s j hlt
    have h4j:=cls_le (byt s j)
    have i3:(0:Int)≤(j:Int):=by omega
    have i4:(j:Int)<(s.size:Int):=by omega
    by_cases hcj:cls (byt s j)=2
    ·have hrj:rcls (byt s j)=48:=by unfold rcls;rw [hcj];rfl
     have HCJ:=hide hcj
     clear hcj h4j
     go_wp2_with (go_at_call 69;refine (refclass_any _ _).mono ?_;rintro e w' ⟨rfl,rfl⟩)
     go_round
     case rel=>exact ⟨j+1,by omega,by omega,by go_num,by rw [HJ.out,runTo_step s 2 j hlt HCJ.out]⟩
     case measure=>simp [intOf];omega
    ·have hrj:((rcls (byt s j):Int) == 48)=false:=by
      have:=rcl_inj h4j (b:=2) (by omega)
      rw [show ((rcl 2:Nat):Int)=48 from rfl] at this
      unfold rcls;rw [this];simpa using hcj
     have he:endOf s k=j:=by rw [HJ.out];exact runTo_stop s 2 _ j (fun h=>hcj h.2)
     clear hcj h4j
     have HEJ:=hide he
     rw [he] at HF HDG
     have i5:(k:Int)≤(j:Int):=by omega
     have i6:(j:Int)≤(s.size:Int):=by omega
     have hsz:(s.extract k j).size=j - k:=extract_size s k j hj2
     have HSZ:=hide hsz
     clear he hsz
     by_cases h18:18<j - k
     ·have HV:=hide (HF.out.1 (by rw [HSZ.out];exact h18))
      have i8:(18:Int)<(j:Int) - (k:Int):=by omega
      go_wp2_with fail
      refine (refclass_any _ _).mono ?_
      rintro e w' ⟨rfl,rfl⟩
      go_wp2_with fail
      refine bodyPost_ret (v:=.tuple #[.agg #[.int .u8 120,.string ⟨#[]⟩,.int .i64 (k:Int),.int .i64 0],.int .i64 (j:Int)]) (by simp [results,Tryz.results70,go_sem]) rfl ?_
      exact ⟨by rw [HV.out,HEJ.out],(Below.refl _ _).alloc (Nat.le_refl _) _⟩
     ·have HV:=hide (HF.out.2 (by rw [HSZ.out];exact h18))
      have i8:¬ (18:Int)<(j:Int) - (k:Int):=by omega
      go_wp2_with fail
      refine (refclass_any _ _).mono ?_
      rintro e w' ⟨rfl,rfl⟩
      go_wp2_with fail
      go_loop [10,11] (fun v i=>∃ m:Nat,m≤j - k∧i = .int .i64 ((k:Int)+(m:Int))∧v = .int .i64 (valN (s.extract k j).data.toList m:Nat)) (fun _ i=>j - (intOf i).toNat)
      case atStart=>exact ⟨0,by omega,by simp,rfl⟩
      case round=>
       obtain ⟨m,hm,rfl,rfl⟩:=hrel
       by_cases hml:m<j - k
       ·have hl:m<(s.extract k j).data.toList.length:=by rw [size_len,HSZ.out];exact hml
        have hb17:=valN_17 (s.extract k j).data.toList HDG.out m (by omega) (by omega)
        have hdig:=HDG.out _ (List.getElem_mem (h:=hl))
        have hbe:=byt_ext s k j m hj2 (by omega) hl
        have HVS:Hid (valN (s.extract k j).data.toList (m+1)=valN (s.extract k j).data.toList m * 10+(byt s (k+m) - 48)):=hide (by rw [valN_succ _ m hl,hbe])
        rw [hbe] at hdig
        obtain ⟨hd1,hd2⟩:=hdig
        have hkm:k+m<s.size:=by omega
        have ekm:(k:Int)+(m:Int)=((k+m:Nat):Int):=by omega
        clear hbe
        generalize valN (s.extract k j).data.toList m=V at *
        obtain ⟨x,hx⟩:∃ x,x=k+m:=⟨_,rfl⟩
        have i9:(x:Int)<(j:Int):=by omega
        rw [ekm]
        rw [← hx] at hd1 hd2 HVS ⊢
        have hxs:x<s.size:=by omega
        have ebm:=byt_eq s x hxs
        have HX:=hide hx
        clear ekm hx hkm
        go_wp2
        go_round
        case rel=>exact ⟨m+1,by omega,by have:=HX.out;go_num,by rw [HVS.out];go_num⟩
        case measure=>have:=HX.out;simp [intOf];omega
       ·have em:(k:Int)+(m:Int)=(j:Int):=by omega
        have eall:valN (s.extract k j).data.toList m=valOf (s.extract k j).data.toList:=by
         rw [← valN_all,size_len,HSZ.out,show m=j - k by omega]
        rw [em,eall]
        clear em eall
        go_wp2
        refine bodyPost_ret (v:=.tuple #[.agg #[.int .u8 110,.string ⟨#[]⟩,.int .i64 (k:Int),.int .i64 (valOf (s.extract k j).data.toList:Nat)],.int .i64 (j:Int)]) (by simp [results,Tryz.results70,go_sem]) rfl ?_
        exact ⟨by rw [HV.out,HEJ.out],(Below.refl _ _).alloc (Nat.le_refl _) _⟩
   ·have he:endOf s k=j:=by rw [HJ.out];exact runTo_stop s 2 _ j (by omega)
    have HEJ:=hide he
    rw [he] at HF HDG
    have i5:(k:Int)≤(j:Int):=by omega
    have i6:(j:Int)≤(s.size:Int):=by omega
    have hsz:(s.extract k j).size=j - k:=extract_size s k j hj2
    have HSZ:=hide hsz
    clear he hsz
    by_cases h18:18<j - k
    ·have HV:=hide (HF.out.1 (by rw [HSZ.out];exact h18))
     have i8:(18:Int)<(j:Int) - (k:Int):=by omega
     go_wp2_with fail
     refine bodyPost_ret (v:=.tuple #[.agg #[.int .u8 120,.string ⟨#[]⟩,.int .i64 (k:Int),.int .i64 0],.int .i64 (j:Int)]) (by simp [results,Tryz.results70,go_sem]) rfl ?_
     exact ⟨by rw [HV.out,HEJ.out],(Below.refl _ _).alloc (Nat.le_refl _) _⟩
    ·have HV:=hide (HF.out.2 (by rw [HSZ.out];exact h18))
     have i8:¬ (18:Int)<(j:Int) - (k:Int):=by omega
     go_wp2_with fail
     go_loop [10,11] (fun v i=>∃ m:Nat,m≤j - k∧i = .int .i64 ((k:Int)+(m:Int))∧v = .int .i64 (valN (s.extract k j).data.toList m:Nat)) (fun _ i=>j - (intOf i).toNat)
     case atStart=>exact ⟨0,by omega,by simp,rfl⟩
     case round=>
      obtain ⟨m,hm,rfl,rfl⟩:=hrel
      by_cases hml:m<j - k
      ·have hl:m<(s.extract k j).data.toList.length:=by rw [size_len,HSZ.out];exact hml
       have hb17:=valN_17 (s.extract k j).data.toList HDG.out m (by omega) (by omega)
       have hdig:=HDG.out _ (List.getElem_mem (h:=hl))
       have hbe:=byt_ext s k j m hj2 (by omega) hl
       have HVS:Hid (valN (s.extract k j).data.toList (m+1)=valN (s.extract k j).data.toList m * 10+(byt s (k+m) - 48)):=hide (by rw [valN_succ _ m hl,hbe])
       rw [hbe] at hdig
       obtain ⟨hd1,hd2⟩:=hdig
       have hkm:k+m<s.size:=by omega
       have ekm:(k:Int)+(m:Int)=((k+m:Nat):Int):=by omega
       clear hbe
       generalize valN (s.extract k j).data.toList m=V at *
       obtain ⟨x,hx⟩:∃ x,x=k+m:=⟨_,rfl⟩
       have i9:(x:Int)<(j:Int):=by omega
       rw [ekm]
       rw [← hx] at hd1 hd2 HVS ⊢
       have hxs:x<s.size:=by omega
       have ebm:=byt_eq s x hxs
       have HX:=hide hx
       clear ekm hx hkm
       go_wp2
       go_round
       case rel=>exact ⟨m+1,by omega,by have:=HX.out;go_num,by rw [HVS.out];go_num⟩
       case measure=>have:=HX.out;simp [intOf];omega
      ·have em:(k:Int)+(m:Int)=(j:Int):=by omega
       have eall:valN (s.extract k j).data.toList m=valOf (s.extract k j).data.toList:=by
        rw [← valN_all,size_len,HSZ.out,show m=j - k by omega]
       rw [em,eall]
       clear em eall
       go_wp2
       refine bodyPost_ret (v:=.tuple #[.agg #[.int .u8 110,.string ⟨#[]⟩,.int .i64 (k:Int),.int .i64 (valOf (s.extract k j).data.toList:Nat)],.int .i64 (j:Int)]) (by simp [results,Tryz.results70,go_sem]) rfl ?_
       exact ⟨by rw [HV.out,HEJ.out],(Below.refl _ _).alloc (Nat.le_refl _) _⟩
theorem Tryz.infoRTok:(Tryz.prog.info? 108).map (fun i=>(i.zero,i.size,i.bytes))=some (some (.agg #[.int .u8 0,.string ⟨#[]⟩,.int .i64 0,.int .i64 0]),4,40):=by kernel_rfl
def RTk.cells (t:RTk):List Value:=[.int .u8 (t.c:Int),.string t.word,.int .i64 (t.pos:Int),.int .i64 (t.n:Int)]
def rkCells (l:List RTk):List Value:=l.flatMap RTk.cells
theorem rkCells_snoc (l:List RTk) (t:RTk):rkCells (l ++ [t])=rkCells l ++ t.cells:=by simp [rkCells]
theorem rk_len (t:RTk):t.cells.length=4:=rfl
set_option maxHeartbeats 2000000 in
set_option maxRecDepth 100000 in
theorem rtokens_any (s:ByteArray) (w:World) (hs:s.size≤1500) :
  Calls Tryz.prog 35 #[.string s] w fun e w'=>∃ v,e = .returned v∧w'.ownsRow w.heap.size 108 4 v (rtoks s).length (rkCells (rtoks s))∧Below w.heap.size w w':=by
 obtain ⟨i0,hi0,hz0,hz1,hz2⟩:=info_parts Tryz.infoRTok
 go_enter Tryz.func35,Tryz.ntmps35
 go_wp2
 go_loopw [3,4] (fun v i wr=>∃ (k:Nat) (l:List Tk),k≤s.size∧i = .int .i64 k∧l ++ toksFrom s (s.size - k) k=toksFrom s s.size 0∧l.length≤k∧
   wr.ownsRow w.heap.size 108 4 v l.length (rkCells (l.map rtok))∧Below w.heap.size w wr) (fun _ i _=>s.size - (intOf i).toNat)
 case atStart=>exact ⟨0,[],by omega,rfl,by simp,by simp,World.ownsRow_nil _ _ _ _,Below.refl _ _⟩
 case round=>
  obtain ⟨k,l,hk,rfl,hl,hlen,hown,hbel⟩:=hrel
  have HL:=hide hl
  clear hl
  by_cases hlt:k<s.size
  ·have eb:=byt_eq s k hlt
   have h4:=cls_le (byt s k)
   have j1:(0:Int)≤(k:Int):=by omega
   have j2:(k:Int)<(s.size:Int):=by omega
   by_cases hb:cls (byt s k)=0
   ·have HB:=hide hb
    have hr:rcls (byt s k)=32:=by unfold rcls;rw [hb];rfl
    clear hb h4
    go_wp2_with (go_at_call 69;refine (refclass_any _ _).mono ?_;rintro e w' ⟨rfl,hw'⟩;subst hw')
    go_roundw
    case rel=>exact ⟨k+1,l,by omega,by go_num,by rw [← toksFrom_blank s k hlt HB.out];exact HL.out,by omega,hown,hbel⟩
    case measure=>simp [intOf];omega
   ·have hr:((rcls (byt s k):Int) == 32)=false:=by
     have:=rcl_inj h4 (b:=0) (by omega)
     rw [show ((rcl 0:Nat):Int)=32 from rfl] at this
     unfold rcls;rw [this];simpa using hb
    have HB:=hide hb
    have hgt:=endOf_gt s k
    have hle:=endOf_le s k hlt
    clear hb h4
    go_wp2_with fail
    refine (refclass_any _ _).mono ?_
    rintro e w1 ⟨rfl,hw1⟩
    subst hw1
    go_wp2_with fail
    refine (rtoken_any s k _ hs hlt HB.out).mono ?_
    rintro e w2 ⟨rfl,hb2⟩
    have hown2:=bel_own hown hb2
    have hbel2:Below w.heap.size w w2:=hbel.trans (hb2.mono hbel.size)
    have hbs:=hbel2.size
    obtain ⟨t,ht⟩:∃ t,t=rtok (tokAt s k):=⟨_,rfl⟩
    have HTT:=hide ht
    rw [← ht]
    generalize hE:endOf s k=E at *
    have HE:=hide hE
    clear hown hbel hb2 ht hE
    go_wp2_with (at_builtin;refine wpList_append_lies _ rfl _ _ _ rfl w.heap.size 108 i0 _ 4 40 Tryz.underlying94 hi0 hz0 hz1 hz2 rfl (by omega) _ l.length (rkCells (l.map rtok)) rfl ((hown2.alloc _).alloc _) ⟨w2.heap.size+1,0,none⟩ 1 1 [.int .u8 (t.c:Int),.string t.word,.int .i64 (t.pos:Int),.int .i64 (t.n:Int)] rfl rfl (World.news_of_block (cs:=#[.int .u8 (t.c:Int),.string t.word,.int .i64 (t.pos:Int),.int .i64 (t.n:Int)]) (t:=108) (fr:=(0,0)) (by have:=heap_alloc_new (w2.alloc (.cells #[.int .u8 (t.c:Int),.string t.word,.int .i64 (t.pos:Int),.int .i64 (t.n:Int)] 108)) (.cells #[.int .u8 (t.c:Int),.string t.word,.int .i64 (t.pos:Int),.int .i64 (t.n:Int)] 108);simpa using this)) (by simp [Value.oneCell']) (by omega) (by unfold maxLen;omega) (by omega) (by simp;omega) (w2.heap.size+2) (by simp) ?_;intro gg cap w3 hown3 hgrow hat hlt3)
    go_roundw
    case rel=>
     have e1:endOf s k=E:=HE.out
     refine ⟨E,l ++ [tokAt s k],hle,rfl,?_,by simp;omega,?_,?_⟩
     ·rw [List.append_assoc,← e1]
      have:=toksFrom_tok s k hlt HB.out
      rw [List.singleton_append,← this]
      exact HL.out
     ·rw [List.map_append,List.map_cons,List.map_nil,← HTT.out,rkCells_snoc,List.length_append]
      exact hown3
     ·exact ((hbel2.alloc hbel2.size _).alloc (by simp;omega) _).grown hgrow (by simp;omega) (fun j hj=>ownBlock_ge hown2 j hj)
    case measure=>simp [intOf];omega
  ·have hbs:=hbel.size
   go_wp2_with (at_builtin;refine wpList_append_lies _ rfl _ _ _ rfl w.heap.size 108 i0 _ 4 40 Tryz.underlying94 hi0 hz0 hz1 hz2 rfl (by omega) _ l.length (rkCells (l.map rtok)) rfl (hown.alloc _) ⟨wr.heap.size,0,none⟩ 1 1 [.int .u8 101,.string ⟨#[]⟩,.int .i64 (s.size:Int),.int .i64 0] rfl rfl (World.news_of_block (cs:=#[.int .u8 101,.string ⟨#[]⟩,.int .i64 (s.size:Int),.int .i64 0]) (t:=108) (fr:=(0,0)) (heap_alloc_new wr _)) (by simp [Value.oneCell']) (by omega) (by unfold maxLen;omega) (by omega) (by simp;omega) (wr.heap.size+1) (by simp) ?_;intro gg cap w1 hown1 hgrow hat hlt1)
   go_ret
   have hE:rtoks s=l.map rtok ++ [⟨101,⟨#[]⟩,s.size,0⟩]:=by
    have h1:=HL.out
    rw [toksFrom_end s _ k (by omega),List.append_nil] at h1
    rw [rtoks,toks,← h1,List.map_append]
    rfl
   refine ⟨_,rfl,?_,?_⟩
   ·rw [hE,rkCells_snoc,List.length_append,List.length_map]
    exact hown1
   ·exact (hbel.alloc hbel.size _).grown hgrow (by simp;omega) (fun j hj=>ownBlock_ge hown j hj)
theorem rlit_cases (t:RTk):(t.c=110∧rlit t=true)∨(t.c≠110∧t.l=kTrue∧rlit t=true)∨(t.c≠110∧t.l≠kTrue∧t.l=kFalse∧rlit t=true)∨(t.c≠110∧t.l≠kTrue∧t.l≠kFalse∧rlit t=false):=by
 unfold rlit
 by_cases h1:t.c=110
 ·left;simp [h1]
 by_cases h2:t.l=kTrue
 ·right;left;simp [h1,h2]
 by_cases h3:t.l=kFalse
 ·right;right;left;simp [h1,h3];decide
 ·right;right;right;simp [h1,h2,h3]
set_option maxHeartbeats 1000000 in
theorem rliteral_any (t:RTk) (w:World) :
  Calls Tryz.prog 95 #[t.val] w fun e w'=>e = .returned (.bool (rlit t))∧Below w.heap.size w w':=by
 rcases rlit_cases t with ⟨h1,hr⟩ | ⟨h1,h2,hr⟩ | ⟨h1,h2,h3,hr⟩ | ⟨h1,h2,h3,hr⟩
 ·have q1:((t.c:Int) == 110)=true:=by rw [h1];rfl
  have HR:=hide hr
  clear h1 hr
  go_enter Tryz.func95,Tryz.ntmps95
  go_wp2
  go_ret
  exact ⟨by rw [HR.out];rfl,(Below.refl _ _).alloc (Nat.le_refl _) _⟩
 ·have q1:((t.c:Int) == 110)=false:=by rw [beq_eq_false_iff_ne];omega
  have q2:=str_yes (t:=t.word) h2
  simp only [kTrue] at q2
  have HR:=hide hr
  clear h1 h2 hr
  go_enter Tryz.func95,Tryz.ntmps95
  go_wp2
  go_ret
  exact ⟨by rw [HR.out];rfl,(Below.refl _ _).alloc (Nat.le_refl _) _⟩
 ·have q1:((t.c:Int) == 110)=false:=by rw [beq_eq_false_iff_ne];omega
  have q3:=str_yes (t:=t.word) h3
  simp only [kFalse] at q3
  have HR:=hide hr
  clear h1 h2 h3 hr
  go_enter Tryz.func95,Tryz.ntmps95
  go_wp2
  go_ret
  exact ⟨by rw [HR.out];rfl,(Below.refl _ _).alloc (Nat.le_refl _) _⟩
 ·have q1:((t.c:Int) == 110)=false:=by rw [beq_eq_false_iff_ne];omega
  have q2:=str_no (t:=t.word) h2
  have q3:=str_no (t:=t.word) h3
  simp only [kTrue] at q2
  simp only [kFalse] at q3
  have HR:=hide hr
  clear h1 h2 h3 hr
  go_enter Tryz.func95,Tryz.ntmps95
  go_wp2
  go_ret
  exact ⟨by rw [HR.out];rfl,(Below.refl _ _).alloc (Nat.le_refl _) _⟩
theorem op_cases (l:List UInt8):l=[43]∨l=[45]∨l=[42]∨l=[47]∨l=[60]∨l=[61]∨l=[38]∨l=[124]∨
   (l≠[43]∧l≠[45]∧l≠[42]∧l≠[47]∧l≠[60]∧l≠[61]∧l≠[38]∧l≠[124]):=by
 by_cases h1:l=[43]
 ·exact .inl h1
 by_cases h2:l=[45]
 ·exact .inr (.inl h2)
 by_cases h3:l=[42]
 ·exact .inr (.inr (.inl h3))
 by_cases h4:l=[47]
 ·exact .inr (.inr (.inr (.inl h4)))
 by_cases h5:l=[60]
 ·exact .inr (.inr (.inr (.inr (.inl h5))))
 by_cases h6:l=[61]
 ·exact .inr (.inr (.inr (.inr (.inr (.inl h6)))))
 by_cases h7:l=[38]
 ·exact .inr (.inr (.inr (.inr (.inr (.inr (.inl h7))))))
 by_cases h8:l=[124]
 ·exact .inr (.inr (.inr (.inr (.inr (.inr (.inr (.inl h8)))))))
 exact .inr (.inr (.inr (.inr (.inr (.inr (.inr (.inr ⟨h1,h2,h3,h4,h5,h6,h7,h8⟩)))))))
set_option maxHeartbeats 1000000 in
theorem roperator_any (t:ByteArray) (w:World) :
  Calls Tryz.prog 96 #[.string t] w fun e w'=>e = .returned (.bool (rop t.data.toList))∧w=w':=by
 rcases op_cases t.data.toList with h | h | h | h | h | h | h | h | ⟨h1,h2,h3,h4,h5,h6,h7,h8⟩
 all_goals try (
  have HF:=hide (congrArg rop h)
  have et:=str_yes h
  clear h
  go_enter Tryz.func96,Tryz.ntmps96
  go_wp2
  go_ret
  exact ⟨by rw [HF.out];rfl,rfl⟩)
 have HF:Hid (rop t.data.toList=false):=hide (by unfold rop opOf;rw [if_neg h1,if_neg h2,if_neg h3,if_neg h4,if_neg h5,if_neg h6,if_neg h7,if_neg h8];rfl)
 have q1:=str_no h1
 have q2:=str_no h2
 have q3:=str_no h3
 have q4:=str_no h4
 have q5:=str_no h5
 have q6:=str_no h6
 have q7:=str_no h7
 have q8:=str_no h8
 clear h1 h2 h3 h4 h5 h6 h7 h8
 go_enter Tryz.func96,Tryz.ntmps96
 go_wp2
 go_ret
 exact ⟨by rw [HF.out];rfl,rfl⟩
abbrev tri (r:List UInt8 × Bool × Bool):Value:=.tuple #[.string ⟨r.1.toArray⟩,.bool r.2.1,.bool r.2.2]
set_option maxHeartbeats 1000000 in
theorem rinside_any (t:RTk) (w:World) :
  Calls Tryz.prog 97 #[t.val] w fun e w'=>e = .returned (tri (insF t))∧Below w.heap.size w w':=by
 have fin:∀ (a1 a2 a3:Prop),a1→a2→a3→a1∧a2∧a3:=fun _ _ _ x y z=>⟨x,y,z⟩
 clear fin
 have step:∀ w1,Below (w.alloc (.cells #[.int .u8 (t.c:Int),.string t.word,.int .i64 (t.pos:Int),.int .i64 (t.n:Int)] 108)).heap.size (w.alloc (.cells #[.int .u8 (t.c:Int),.string t.word,.int .i64 (t.pos:Int),.int .i64 (t.n:Int)] 108)) w1→
   w1.cell? ⟨w.heap.size,0,none⟩=some (.int .u8 (t.c:Int))∧w1.cell? ⟨w.heap.size,1,none⟩=some (.string t.word)∧Below w.heap.size w w1:=fun w1 hb=>by
  have hN:=(hb.block w.heap.size (by simp)).trans (heap_alloc_new w _)
  refine ⟨?_,?_,((Below.refl _ _).alloc (Nat.le_refl _) _).trans (hb.mono (by simp))⟩
  ·rw [cell_of_row w1 _ 0 _ _ _ hN];rfl
  ·rw [cell_of_row w1 _ 1 _ _ _ hN];rfl
 have HSTEP:=hide step
 clear step
 by_cases h1:t.l=kNot
 ·have HF:Hid (insF t=([69],true,true)):=hide (by unfold insF;rw [if_pos h1])
  have q1:=str_yes (t:=t.word) h1
  simp only [kNot] at q1
  clear h1
  go_enter Tryz.func97,Tryz.ntmps97
  go_wp2_with fail
  refine (rliteral_any t _).mono ?_
  rintro e w1 ⟨rfl,hb1⟩
  obtain ⟨d0,d1,hbw⟩:=HSTEP.out w1 hb1
  clear hb1
  go_wp2_with fail
  go_ret3
  exact ⟨by rw [HF.out];rfl,hbw⟩
 have q1:=str_no (t:=t.word) h1
 simp only [kNot] at q1
 by_cases h2:t.l=kIf
 ·have HF:Hid (insF t=([69,69,69],true,true)):=hide (by unfold insF;rw [if_neg h1,if_pos h2])
  have q2:=str_yes (t:=t.word) h2
  simp only [kIf] at q2
  clear h1 h2 q1
  go_enter Tryz.func97,Tryz.ntmps97
  go_wp2_with fail
  refine (rliteral_any t _).mono ?_
  rintro e w1 ⟨rfl,hb1⟩
  obtain ⟨d0,d1,hbw⟩:=HSTEP.out w1 hb1
  clear hb1
  go_wp2_with fail
  go_ret3
  exact ⟨by rw [HF.out];rfl,hbw⟩
 have q2:=str_no (t:=t.word) h2
 simp only [kIf] at q2
 by_cases h3:rlit t=true
 ·have HF:Hid (insF t=([76],true,true)):=hide (by unfold insF;rw [if_neg h1,if_neg h2,if_pos h3])
  clear h1 h2
  go_enter Tryz.func97,Tryz.ntmps97
  go_wp2_with fail
  refine (rliteral_any t _).mono ?_
  rintro e w1 ⟨rfl,hb1⟩
  rw [h3]
  obtain ⟨d0,d1,hbw⟩:=HSTEP.out w1 hb1
  clear hb1
  go_wp2_with fail
  go_ret3
  exact ⟨by rw [HF.out];rfl,hbw⟩
 have h3':rlit t=false:=by simpa using h3
 by_cases h4:t.c=97
 ·have HF:Hid (insF t=([79],true,true)):=hide (by unfold insF;rw [if_neg h1,if_neg h2,if_neg h3,if_pos h4])
  have q4:((t.c:Int) == 97)=true:=by rw [h4];rfl
  clear h1 h2 h3 h4
  go_enter Tryz.func97,Tryz.ntmps97
  go_wp2_with fail
  refine (rliteral_any t _).mono ?_
  rintro e w1 ⟨rfl,hb1⟩
  rw [h3']
  obtain ⟨d0,d1,hbw⟩:=HSTEP.out w1 hb1
  clear hb1
  go_wp2_with fail
  go_ret3
  exact ⟨by rw [HF.out];rfl,hbw⟩
 have q4:((t.c:Int) == 97)=false:=by rw [beq_eq_false_iff_ne];omega
 by_cases h5:t.l=[40]
 ·have HF:Hid (insF t=([69,79],false,true)):=hide (by unfold insF;rw [if_neg h1,if_neg h2,if_neg h3,if_neg h4,h5];rfl)
  have q5:=str_yes (t:=t.word) h5
  clear h1 h2 h3 h4 h5 q1 q2
  go_enter Tryz.func97,Tryz.ntmps97
  go_wp2_with fail
  refine (rliteral_any t _).mono ?_
  rintro e w1 ⟨rfl,hb1⟩
  rw [h3']
  obtain ⟨d0,d1,hbw⟩:=HSTEP.out w1 hb1
  clear hb1
  go_wp2_with fail
  go_quiet (fail)
  go_wp2
  go_ret3
  exact ⟨by rw [HF.out];rfl,below_drewN hbw _⟩
 ·have HF:Hid (insF t=([69,79],false,false)):=hide (by unfold insF;rw [if_neg h1,if_neg h2,if_neg h3,if_neg h4];simp [h5])
  have q5:=str_no (t:=t.word) h5
  clear h1 h2 h3 h4 h5
  go_enter Tryz.func97,Tryz.ntmps97
  go_wp2_with fail
  refine (rliteral_any t _).mono ?_
  rintro e w1 ⟨rfl,hb1⟩
  rw [h3']
  obtain ⟨d0,d1,hbw⟩:=HSTEP.out w1 hb1
  clear hb1
  go_wp2_with fail
  go_quiet (fail)
  go_wp2
  go_ret3
  exact ⟨by rw [HF.out];rfl,below_drewN hbw _⟩
end Go.Proofs.YtmndgoapkmhglabGreat
