import Derived.Test.YtmndgoapkmhglabGreatM20OpC
import Derived.Test.YtmndgoapkmhglabGreatM26RefT
import Derived.Test.YtmndgoapkmhglabGreatM28RefW
import Derived.Test.YtmndgoapkmhglabGreatM30RunX
import Derived.Test.YtmndgoapkmhglabGreatM31LawP
namespace Go.Proofs.YtmndgoapkmhglabGreat
open Go.RowKit
attribute [local go_sem ↓] Go.wp_at_zero Go.wp_at_succ
theorem truth_any (w:World) (b:Bool) :
  Calls Tryz.prog 119 #[.bool b] w fun e w'=>e = .returned (.int .i64 (b2i b))∧w=w':=by
 cases b
 all_goals
  go_enter Tryz.func119,Tryz.ntmps119
  go_wp2
  go_ret
  exact ⟨rfl,rfl⟩
theorem rknot_any (w:World) (a:Int) :
  Calls Tryz.prog 112 #[.int .i64 a] w fun e w'=>e = .returned (.int .i64 (b2i (decide (a=0))))∧w=w':=by
 have HN:=hide (fun W b=>truth_any W b)
 go_enter Tryz.func112,Tryz.ntmps112
 go_wp2_with fail
 refine (HN.out _ _).mono ?_
 rintro e w1 ⟨rfl,rfl⟩
 go_wp2
 go_ret
 exact ⟨rfl,rfl⟩
def choF (a b c:Int):Int:=if a≠0 then b else c
theorem choose_any (w:World) (a b c:Int) :
  Calls Tryz.prog 113 #[.int .i64 a,.int .i64 b,.int .i64 c] w fun e w'=>e = .returned (.int .i64 (choF a b c))∧w=w':=by
 by_cases h:a=0
 ·have HF:Hid (choF a b c=c):=hide (by unfold choF;rw [if_neg (by simpa using h)])
  have q:(a != 0)=false:=by rw [h];rfl
  clear h
  go_enter Tryz.func113,Tryz.ntmps113
  go_wp2
  go_ret
  exact ⟨by rw [HF.out];rfl,rfl⟩
 ·have HF:Hid (choF a b c=b):=hide (by unfold choF;rw [if_pos h])
  have q:(a != 0)=true:=by rw [bne_iff_ne];exact h
  clear h
  go_enter Tryz.func113,Tryz.ntmps113
  go_wp2
  go_ret
  exact ⟨by rw [HF.out];rfl,rfl⟩
def quoF (a b:Int):Int:=if b=0 then 0 else if b = -1 then w64 (0 - a) else w64 (a.tdiv b)
theorem quotient_any (w:World) (a b:Int) :
  Calls Tryz.prog 120 #[.int .i64 a,.int .i64 b] w fun e w'=>e = .returned (.int .i64 (quoF a b))∧w=w':=by
 by_cases h:b=0
 ·have HF:Hid (quoF a b=0):=hide (by unfold quoF;rw [if_pos h])
  have q:(b == 0)=true:=by rw [h];rfl
  clear h
  go_enter Tryz.func120,Tryz.ntmps120
  go_wp2
  go_ret
  exact ⟨by rw [HF.out];rfl,rfl⟩
 have q:(b == 0)=false:=by rw [beq_eq_false_iff_ne];exact h
 by_cases h1:b = -1
 ·have HF:Hid (quoF a b=w64 (-a)):=hide (by unfold quoF;rw [if_neg h,if_pos h1,Int.zero_sub])
  have q1:(b == -1)=true:=by rw [h1];rfl
  clear h h1
  go_enter Tryz.func120,Tryz.ntmps120
  go_wp2
  go_ret
  exact ⟨by rw [HF.out];rfl,rfl⟩
 ·have HF:Hid (quoF a b=w64 (a.tdiv b)):=hide (by unfold quoF;rw [if_neg h,if_neg h1])
  have q1:(b == -1)=false:=by rw [beq_eq_false_iff_ne];exact h1
  clear h1
  go_enter Tryz.func120,Tryz.ntmps120
  go_wp2
  go_ret
  exact ⟨by rw [HF.out];rfl,rfl⟩
set_option maxHeartbeats 2000000 in
theorem pair_any (op:Nat) (w:World) (x y:Int) :
  Calls Tryz.prog 114 #[.int .i64 (op:Int),.int .i64 x,.int .i64 y] w fun e w'=>e = .returned (.int .i64 (pairF op x y))∧w=w':=by
 have HN:=hide (fun W b=>truth_any W b)
 have HQ:=hide (fun W=>quotient_any W x y)
 have no:∀ k:Nat,op≠k→((op:Int) == (k:Int))=false:=fun k h=>by rw [beq_eq_false_iff_ne];omega
 by_cases h5:op=5
 ·have HF:Hid (pairF op x y=w64 (x+y)):=hide (by rw [h5];rfl)
  have q:((op:Int) == 5)=true:=by rw [h5];rfl
  clear h5 no
  go_enter Tryz.func114,Tryz.ntmps114
  go_wp2
  go_ret
  exact ⟨by rw [HF.out];rfl,rfl⟩
 have q5:((op:Int) == 5)=false:=no 5 h5
 by_cases h6:op=6
 ·have HF:Hid (pairF op x y=w64 (x - y)):=hide (by rw [h6];rfl)
  have q:((op:Int) == 6)=true:=by rw [h6];rfl
  clear h5 h6 no
  go_enter Tryz.func114,Tryz.ntmps114
  go_wp2
  go_ret
  exact ⟨by rw [HF.out];rfl,rfl⟩
 have q6:((op:Int) == 6)=false:=no 6 h6
 by_cases h7:op=7
 ·have HF:Hid (pairF op x y=w64 (x * y)):=hide (by rw [h7];rfl)
  have q:((op:Int) == 7)=true:=by rw [h7];rfl
  clear h5 h6 h7 no
  go_enter Tryz.func114,Tryz.ntmps114
  go_wp2
  go_ret
  exact ⟨by rw [HF.out];rfl,rfl⟩
 have q7:((op:Int) == 7)=false:=no 7 h7
 by_cases h8:op=8
 ·have HF:Hid (pairF op x y=quoF x y):=hide (by rw [h8];rfl)
  have q:((op:Int) == 8)=true:=by rw [h8];rfl
  clear h5 h6 h7 h8 no
  go_enter Tryz.func114,Tryz.ntmps114
  go_wp2_with fail
  refine (HQ.out _).mono ?_
  rintro e w1 ⟨rfl,rfl⟩
  go_wp2
  go_ret
  exact ⟨by rw [HF.out];rfl,rfl⟩
 have q8:((op:Int) == 8)=false:=no 8 h8
 by_cases h9:op=9
 ·have HF:Hid (pairF op x y=b2i (decide (x<y))):=hide (by rw [h9];rfl)
  have q:((op:Int) == 9)=true:=by rw [h9];rfl
  clear h5 h6 h7 h8 h9 no
  go_enter Tryz.func114,Tryz.ntmps114
  go_wp2_with fail
  refine (HN.out _ _).mono ?_
  rintro e w1 ⟨rfl,rfl⟩
  go_wp2
  go_ret
  exact ⟨by rw [HF.out];rfl,rfl⟩
 have q9:((op:Int) == 9)=false:=no 9 h9
 by_cases h10:op=10
 ·have HF:Hid (pairF op x y=b2i (decide (x=y))):=hide (by rw [h10];rfl)
  have q:((op:Int) == 10)=true:=by rw [h10];rfl
  clear h5 h6 h7 h8 h9 h10 no
  go_enter Tryz.func114,Tryz.ntmps114
  go_wp2_with fail
  refine (HN.out _ _).mono ?_
  rintro e w1 ⟨rfl,rfl⟩
  go_wp2
  go_ret
  exact ⟨by rw [HF.out];rfl,rfl⟩
 have q10:((op:Int) == 10)=false:=no 10 h10
 have hcx:x=0∨(x != 0)=true:=by by_cases e:x=0 <;> simp [e]
 have hcy:y=0∨(y != 0)=true:=by by_cases e:y=0 <;> simp [e]
 by_cases h11:op=11
 ·have HF:Hid (pairF op x y=b2i (decide (x≠0) && decide (y≠0))):=hide (by rw [h11];rfl)
  have q:((op:Int) == 11)=true:=by rw [h11];rfl
  clear h5 h6 h7 h8 h9 h10 h11 no
  rcases hcx with rfl | c1
  ·go_enter Tryz.func114,Tryz.ntmps114
   go_wp2_with fail
   refine (HN.out _ _).mono ?_
   rintro e w1 ⟨rfl,rfl⟩
   go_wp2
   go_ret
   exact ⟨by rw [HF.out];simp_all,rfl⟩
  ·rcases hcy with rfl | c2
   all_goals
    go_enter Tryz.func114,Tryz.ntmps114
    go_wp2_with fail
    refine (HN.out _ _).mono ?_
    rintro e w1 ⟨rfl,rfl⟩
    go_wp2
    go_ret
    exact ⟨by rw [HF.out];simp_all,rfl⟩
 have q11:((op:Int) == 11)=false:=no 11 h11
 by_cases h12:op=12
 ·have HF:Hid (pairF op x y=b2i (decide (x≠0) || decide (y≠0))):=hide (by rw [h12];rfl)
  have q:((op:Int) == 12)=true:=by rw [h12];rfl
  clear h5 h6 h7 h8 h9 h10 h11 h12 no
  rcases hcx with rfl | c1
  ·rcases hcy with rfl | c2
   all_goals
    go_enter Tryz.func114,Tryz.ntmps114
    go_wp2_with fail
    refine (HN.out _ _).mono ?_
    rintro e w1 ⟨rfl,rfl⟩
    go_wp2
    go_ret
    exact ⟨by rw [HF.out];simp_all,rfl⟩
  ·go_enter Tryz.func114,Tryz.ntmps114
   go_wp2_with fail
   refine (HN.out _ _).mono ?_
   rintro e w1 ⟨rfl,rfl⟩
   go_wp2
   go_ret
   exact ⟨by rw [HF.out];simp_all,rfl⟩
 have q12:((op:Int) == 12)=false:=no 12 h12
 have HF:Hid (pairF op x y=0):=hide (by unfold pairF;rw [if_neg h5,if_neg h6,if_neg h7,if_neg h8,if_neg h9,if_neg h10,if_neg h11,if_neg h12])
 clear h5 h6 h7 h8 h9 h10 h11 h12 no
 go_enter Tryz.func114,Tryz.ntmps114
 go_wp2
 go_ret
 exact ⟨by rw [HF.out];rfl,rfl⟩
set_option maxHeartbeats 1000000 in
theorem element_any (w:World) (v:Value) (ins:List (List Int)) (h:LsAt w v ins) (i k:Nat) :
  Calls Tryz.prog 111 #[v,.int .i64 (i:Int),.int .i64 (k:Int)] w fun e w'=>e = .returned (.int .i64 (elemF ins i k))∧w=w':=by
 obtain ⟨A,C,rfl,hm,hc⟩:=h
 by_cases hi:i<ins.length
 ·obtain ⟨b,o,rfl,hb,hr⟩:=hc (by omega)
  obtain ⟨x,hx,A',C',rfl,hm',hc'⟩:=hr i hi
  have j2:¬ (i:Int) ≥ (ins.length:Int):=by omega
  have i1:(0:Int)≤(i:Int):=by omega
  have i2:(i:Int)<(ins.length:Int):=by omega
  by_cases hk:k<ins[i].length
  ·obtain ⟨b',o',rfl,hb',hr'⟩:=hc' (by omega)
   have hv:elemF ins i k=ins[i][k]:=by
    unfold elemF
    rw [List.getD_eq_getElem?_getD,List.getD_eq_getElem?_getD,List.getElem?_eq_getElem hi,Option.getD_some,List.getElem?_eq_getElem hk,Option.getD_some]
   have hx':=hr' k hk
   have HV:=hide hv
   have k1:(0:Int)≤(k:Int):=by omega
   generalize ins[i][k]=z at hx' HV
   have k2:(k:Int)<(ins[i].length:Int):=by omega
   have k3:¬ (k:Int) ≥ (ins[i].length:Int):=by omega
   clear hv hc hc' hr hr' hk
   generalize ins[i].length=n at *
   go_enter Tryz.func111,Tryz.ntmps111
   go_wp2
   go_ret
   exact ⟨by rw [HV.out];rfl,rfl⟩
  ·have hv:elemF ins i k=0:=by
    unfold elemF
    rw [List.getD_eq_getElem?_getD,List.getD_eq_getElem?_getD,List.getElem?_eq_getElem hi,Option.getD_some,List.getElem?_eq_none (Nat.le_of_not_lt hk)];rfl
   have HV:=hide hv
   have k3:(k:Int) ≥ (ins[i].length:Int):=by omega
   clear hv hc hc' hr
   generalize ins[i].length=n at *
   go_enter Tryz.func111,Tryz.ntmps111
   go_wp2
   go_ret
   exact ⟨by rw [HV.out];rfl,rfl⟩
 ·have hv:elemF ins i k=0:=by
   unfold elemF
   have e:ins[i]? = none:=List.getElem?_eq_none (Nat.le_of_not_lt hi)
   rw [List.getD_eq_getElem?_getD,List.getD_eq_getElem?_getD,e];rfl
  have HV:=hide hv
  have j2:(i:Int) ≥ (ins.length:Int):=by omega
  clear hv hc
  go_enter Tryz.func111,Tryz.ntmps111
  go_wp2
  go_ret
  exact ⟨by rw [HV.out];rfl,rfl⟩
set_option maxHeartbeats 2000000 in
set_option maxRecDepth 100000 in
theorem rpat_any (w:World) (q g cap:Nat) (ts:List Tk) (L:List Dl) (vE vA vI vQ:Value) (h:RProg w q g cap ts L vE vA vI vQ) (ho:ROk ts L) (pl:Int) :
  Calls Tryz.prog 43 #[.pointer (some ⟨q,0,none⟩),.int .i64 pl] w fun e w'=>∃ v,e = .returned v∧w'.ownsRow w.heap.size 3 1 v (atR ts L pl).length (pCells (atR ts L pl))∧Below w.heap.size w w':=by
 obtain ⟨i0,hi0,hz0,hz1,hz2⟩:=info_parts Tryz.infoInt
 obtain ⟨hm1,hm2,hm3⟩:=ho.many
 obtain ⟨av,cv,rfl,hsh⟩:=own_shape h.eqs
 have HR:=hide h
 have HO:=hide ho
 have HSH:=hide hsh
 clear h ho hsh
 go_enter Tryz.func43,Tryz.ntmps43
 go_wp2
 go_loopw [5,6] (fun v vi wr=>∃ m:Nat,m≤(eqL L).length∧vi = .int .i64 m∧wr.ownsRow w.heap.size 3 1 v (atG ts L pl m).length (pCells (atG ts L pl m))∧Below w.heap.size w wr) (fun _ vi _=>(eqL L).length - (intOf vi).toNat)
 case atStart=>exact ⟨0,Nat.zero_le _,rfl,World.ownsRow_nil _ _ _ _,Below.refl _ _⟩
 case round=>
  obtain ⟨m,hm,rfl,hown,hbel⟩:=hrel
  have c4:=(HR.out.below hbel).c4
  have HOW:=hide hown
  have HBR:=hide hbel
  have hbs:=hbel.size
  have hal:=atG_len ts L pl m
  clear hown
  by_cases hml:m<(eqL L).length
  ·obtain ⟨gq,rfl,_,hgq2⟩:=HSH.out (by omega)
   obtain ⟨x,hx⟩:∃ x,x=(eqL L)[m]'hml:=⟨_,rfl⟩
   obtain ⟨hxm,hxk,hxs,hxl,_⟩:=HO.out.eq (x:=x) (by rw [hx];exact List.getElem_mem hml)
   obtain ⟨e1,e2,e3⟩:=rdc_truth ts hxk
   obtain ⟨d,hd⟩:∃ d,d=rdc ts x:=⟨_,rfl⟩
   rw [← hd] at e1 e2 e3
   obtain ⟨y0,y1,y2,y3,y4,y5⟩:=rd_later HR.out.eqs hbel hgq2 hml d (by rw [hd,hx])
   have j3:(0:Int)≤(m:Int):=by omega
   have j4:(m:Int)<((eqL L).length:Int):=by omega
   have HE:Hid (((placeD ts ((eqL L)[m]'hml):Nat):Int)=(d.place:Int)):=hide (by rw [e3,hx])
   clear hd hx e1 e2 e3 hxm hxk hxs hxl y0 y1 y2 y3 y5 hbel
   by_cases hp:(d.place:Int)=pl
   ·have q0:((d.place:Int) == pl)=true:=by rw [hp];simp
    have HN:=hide (atG_hit hml (HE.out.trans hp))
    generalize (d.place:Int)=dp at *
    generalize atG ts L pl m=F at *
    clear hp
    have hod:=HOW.out
    go_wp2_with (at_builtin;refine wpList_append_lies _ rfl _ _ _ rfl w.heap.size 3 i0 _ 1 8 Tryz.underlying36 hi0 hz0 hz1 hz2 rfl (by omega) _ F.length (pCells F) rfl (hod.alloc _) ⟨wr.heap.size,0,none⟩ 1 1 [.int .i64 (m:Int)] rfl rfl (World.news_of_block (cs:=#[.int .i64 (m:Int)]) (t:=3) (fr:=(0,0)) (heap_alloc_new wr _)) (by simp [Value.oneCell']) (by omega) (by unfold maxLen;omega) (by omega) (by simp;omega) (wr.heap.size+1) (by simp) ?_;intro g3 cap3 w3 hown3 hgrow hat hlt3)
    go_roundw
    case rel=>
     refine ⟨m+1,by omega,by go_num,?_,?_⟩
     ·rw [HN.out,List.length_append,pCells_snoc];exact hown3
     ·exact (HBR.out.alloc hbs _).grown hgrow (by simp;omega) (fun j hj=>ownBlock_ge hod j hj)
    case measure=>simp [intOf];omega
   ·have q0:((d.place:Int) == pl)=false:=by rw [beq_eq_false_iff_ne];exact hp
    have HN:=hide (atG_miss hml (by rw [HE.out];exact hp))
    generalize (d.place:Int)=dp at *
    clear hp
    go_wp2
    go_roundw
    case rel=>exact ⟨m+1,by omega,by go_num,by rw [HN.out];first | exact HOW.out | exact bel_own HOW.out (below_drewN (Below.refl _ _) _),by first | exact HBR.out | exact below_drewN HBR.out _⟩
    case measure=>simp [intOf];omega
  ·have em:m=(eqL L).length:=by omega
   subst em
   have z1:¬ ((eqL L).length:Int)<((eqL L).length:Int):=by omega
   clear hbel
   go_wp2
   go_ret
   exact ⟨_,rfl,by first | exact HOW.out | exact bel_own HOW.out (below_drewN (Below.refl _ _) _),by first | exact HBR.out | exact below_drewN HBR.out _⟩
set_option maxHeartbeats 2000000 in
set_option maxRecDepth 100000 in
theorem rloop_any (w:World) (q g cap:Nat) (ts:List Tk) (L:List Dl) (vE vA vI vQ:Value) (h:RProg w q g cap ts L vE vA vI vQ) (ho:ROk ts L) :
  Calls Tryz.prog 42 #[.pointer (some ⟨q,0,none⟩)] w fun e w'=>e = .returned (optI (lpR ts L))∧Below w.heap.size w w':=by
 obtain ⟨hm1,hm2,hm3⟩:=ho.many
 obtain ⟨av,cv,rfl,hsh⟩:=own_shape h.eqs
 have HR:=hide h
 have HO:=hide ho
 have HSH:=hide hsh
 clear h ho hsh
 go_enter Tryz.func42,Tryz.ntmps42
 go_wp2_with fail
 refine (rwaits_any w q g cap ts L _ _ _ _ HR.out HO.out).mono ?_
 rintro e w1 ⟨g2,cap2,R,rfl,hmat,hRB,hg2,hb1⟩
 have HCY:Hid (firstP ts (warsh (waitsP ((eqL L).map (placeD ts)) (routesR ts L) noM) 4) ((eqL L).drop 0)=lpR ts L):=hide rfl
 generalize waitsP ((eqL L).map (placeD ts)) (routesR ts L) noM=WM at hmat HCY
 have HMR:=hide hmat
 have HRB:=hide hRB
 clear hmat hRB
 go_wp2_with fail
 refine (rcircles_any w1 (some ⟨g2,0,none⟩) g2 4 cap2 w.heap.size R WM HMR.out (fun _=>rfl) (by omega) hb1.size HRB.out).mono ?_
 rintro e2 w2 ⟨G,rfl,hG,hrow,hb2⟩
 have hbel2:Below w.heap.size w w2:=hb1.trans hb2
 generalize warsh WM 4=W at hrow HCY
 have c4'':=(HR.out.below hbel2).c4
 have HROW:=hide hrow
 clear hrow hb2 hb1 HMR
 go_wp2
 go_loopw [5] (fun i wx=>∃ m:Nat,m≤(eqL L).length∧i = .int .i64 m∧wx.rowIs G 4 4 (fun i=>.bool (W i i))∧Below w.heap.size w wx∧firstP ts W ((eqL L).drop m)=lpR ts L) (fun i _=>(eqL L).length - (intOf i).toNat)
 case atStart=>exact ⟨0,Nat.zero_le _,rfl,HROW.out,hbel2,HCY.out⟩
 case round=>
  clear HROW hbel2 c4'' HCY
  obtain ⟨m,hm,rfl,hrow,hbel,hrec⟩:=hrel
  have c4:=(HR.out.below hbel).c4
  by_cases hml:m<(eqL L).length
  ·obtain ⟨gq,rfl,_,hgq2⟩:=HSH.out (by omega)
   obtain ⟨x,hx⟩:∃ x,x=(eqL L)[m]'hml:=⟨_,rfl⟩
   obtain ⟨hxm,hxk,_,_,hxp⟩:=HO.out.eq (x:=x) (by rw [hx];exact List.getElem_mem hml)
   have ht:=HO.out.tok hxm
   have hpos:=rdc_pos ts x
   obtain ⟨y0,y1,y2,y3,y4,y5⟩:=rd_later HR.out.eqs hbel hgq2 hml (rdc ts x) (by rw [hx])
   have hdp:(rdc ts x).place=placeD ts x:=(rdc_truth ts hxk).2.2
   rw [List.drop_eq_getElem_cons hml,← hx] at hrec
   simp only [firstP] at hrec
   have r1:=hrow.cell hxp
   rw [← hdp] at hrec r1 hxp
   have HRC:=hide hrec
   have HRW:=hide hrow
   have HRP:=hide (HR.out.below hbel)
   have HPX:=hide hpos
   have HTX:=hide ht
   have j3:(0:Int)≤(m:Int):=by omega
   have j4:(m:Int)<((eqL L).length:Int):=by omega
   generalize rdc ts x=d at y0 y1 y2 y3 y4 y5 HPX HTX HRC r1 hxp
   have j5:(0:Int)≤(d.place:Int):=by omega
   have j6:(d.place:Int)<4:=by omega
   generalize W d.place d.place=b at r1 HRC
   clear hrec hrow hxm ht hx hpos hdp hxk
   cases b
   ·have HR2:Hid (firstP ts W ((eqL L).drop (m+1))=lpR ts L):=hide (by rw [← HRC.out];simp)
    clear HRC
    go_wp2
    go_roundw
    case rel=>exact ⟨m+1,by omega,by go_num,by first | exact HRW.out | exact HRW.out.of_block rfl,by first | exact hbel | exact below_drewN hbel _,HR2.out⟩
    case measure=>simp [intOf];omega
   ·have HR2:Hid (lpR ts L=some (posD ts x)):=hide (by rw [← HRC.out];simp)
    clear HRC
    go_wp2_with fail
    refine (rplace_any _ q g cap ts L _ _ _ _ HRP.out d HTX.out).mono ?_
    rintro e3 w3 ⟨rfl,hb3⟩
    rw [HPX.out]
    go_wp2
    go_ret
    exact ⟨by rw [HR2.out];rfl,hbel.trans (hb3.mono hbel.size)⟩
  ·have em:m=(eqL L).length:=by omega
   subst em
   rw [List.drop_length] at hrec
   have HRC:=hide hrec
   have z2:¬ ((eqL L).length:Int)<((eqL L).length:Int):=by omega
   clear hrec hrow
   go_wp2
   go_ret
   exact ⟨by rw [← HRC.out];rfl,hbel⟩
end Go.Proofs.YtmndgoapkmhglabGreat
