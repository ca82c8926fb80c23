import Derived.Test.YtecegaflhdgfaaaGreatM09CwC
import Derived.Test.YtecegaflhdgfaaaGreatM17JudH
import Derived.Test.YtecegaflhdgfaaaGreatM20WrB
import Derived.Test.YtecegaflhdgfaaaGreatM25LawC
import Derived.Test.YtecegaflhdgfaaaGreatM26ExFo
namespace Go.Proofs.YtecegaflhdgfaaaGreat
open Go.RowKit
attribute [local go_sem ↓] Go.wp_at_zero Go.wp_at_succ
set_option maxHeartbeats 4000000 in
set_option maxRecDepth 100000 in
theorem ltwin_any (w:World) (c:CdF) (vO vC vN vU uO uC uN uU:Value) (hc:CodeAt w vO vC vN vU c) (h:CodeAt w uO uC uN uU c) :
  Calls Tryz.prog 19 #[.agg #[vO,vC,vN,vU],.agg #[uO,uC,uN,uU]] w fun e w'=>e = .returned (.bool true)∧Below w.heap.size w w':=by
 have HC1:=hide hc
 have HC2:=hide h
 obtain ⟨aC,kC,rfl,_,_⟩:=hc.cells
 obtain ⟨aN,kN,rfl,_,_⟩:=hc.next
 obtain ⟨aU,kU,rfl,_,_⟩:=hc.out
 obtain ⟨Ac,Cc,rfl,_,_⟩:=h.cells
 obtain ⟨An,Cn,rfl,_,_⟩:=h.next
 obtain ⟨Au,Cu,rfl,_,_⟩:=h.out
 obtain ⟨Ao,Co,rfl,hol,hoc⟩:=op_cells h.ops
 obtain ⟨Ar,Cr,rfl,-,hrc⟩:=op_cells hc.ops
 have H1:Hid (∀ W,Below w.heap.size w W→Calls Tryz.prog 9 #[.slice aC c.cells.length kC,.slice Ac c.cells.length Cc] W fun e w'=>e = .returned (.bool true)∧Below W.heap.size W w'):=hide fun W hW=>by
  have:=lsame_any W _ _ c.cells c.cells (HC1.out.below hW).cells (HC2.out.below hW).cells
  rw [show (c.cells == c.cells)=true by simp] at this
  exact this
 have H2:Hid (∀ W,Below w.heap.size w W→Calls Tryz.prog 9 #[.slice aN c.next.length kN,.slice An c.next.length Cn] W fun e w'=>e = .returned (.bool true)∧Below W.heap.size W w'):=hide fun W hW=>by
  have:=lsame_any W _ _ c.next c.next (HC1.out.below hW).next (HC2.out.below hW).next
  rw [show (c.next == c.next)=true by simp] at this
  exact this
 have H3:Hid (∀ W,Below w.heap.size w W→Calls Tryz.prog 9 #[.slice aU c.out.length kU,.slice Au c.out.length Cu] W fun e w'=>e = .returned (.bool true)∧Below W.heap.size W w'):=hide fun W hW=>by
  have:=lsame_any W _ _ c.out c.out (HC1.out.below hW).out (HC2.out.below hW).out
  rw [show (c.out == c.out)=true by simp] at this
  exact this
 have HA:=hide hoc
 have HR:=hide hrc
 have q1:((c.ops.length:Int) != (c.ops.length:Int))=false:=by simp
 obtain ⟨bx,hbx⟩:∃ bx,bx=(w.alloc (.cells #[.slice Ar c.ops.length Cr,.slice aC c.cells.length kC,.slice aN c.next.length kN,.slice aU c.out.length kU] 43)).alloc (.cells #[.slice Ao c.ops.length Co,.slice Ac c.cells.length Cc,.slice An c.next.length Cn,.slice Au c.out.length Cu] 43):=⟨_,rfl⟩
 have hsx:bx.heap.size=w.heap.size+1+1:=by rw [hbx];simp
 have HBX:Hid (Below w.heap.size w bx):=hide (by rw [hbx];exact ((Below.refl _ _).alloc (Nat.le_refl _) _).alloc (by simp) _)
 have hx0:bx.heap[w.heap.size]? = some (.cells #[.slice Ar c.ops.length Cr,.slice aC c.cells.length kC,.slice aN c.next.length kN,.slice aU c.out.length kU] 43 (0,0)):=by rw [hbx];exact heap_alloc2_old _ _ _
 have hx1:bx.heap[w.heap.size+1]? = some (.cells #[.slice Ao c.ops.length Co,.slice Ac c.cells.length Cc,.slice An c.next.length Cn,.slice Au c.out.length Cu] 43 (0,0)):=by rw [hbx];exact heap_alloc2_new _ _ _
 have HC:Hid (∀ W:World,Below bx.heap.size bx W→(W.cell? ⟨w.heap.size,0,none⟩=some (.slice Ar c.ops.length Cr)∧W.cell? ⟨w.heap.size,1,none⟩=some (.slice aC c.cells.length kC)∧W.cell? ⟨w.heap.size,2,none⟩=some (.slice aN c.next.length kN)∧W.cell? ⟨w.heap.size,3,none⟩=some (.slice aU c.out.length kU))∧(W.cell? ⟨w.heap.size+1,0,none⟩=some (.slice Ao c.ops.length Co)∧W.cell? ⟨w.heap.size+1,1,none⟩=some (.slice Ac c.cells.length Cc)∧W.cell? ⟨w.heap.size+1,2,none⟩=some (.slice An c.next.length Cn)∧W.cell? ⟨w.heap.size+1,3,none⟩=some (.slice Au c.out.length Cu))):=hide fun W hW=>by
  have hy0:W.heap[w.heap.size]? = _:=(hW.block _ (by omega)).trans hx0
  have hy1:W.heap[w.heap.size+1]? = _:=(hW.block _ (by omega)).trans hx1
  refine ⟨⟨?_,?_,?_,?_⟩,?_,?_,?_,?_⟩ <;> first | (rw [cell_of_row _ _ _ _ _ _ hy0];rfl) | (rw [cell_of_row _ _ _ _ _ _ hy1];rfl)
 have HX:=hide hbx
 clear hoc hrc h hc hx0 hx1 hsx hbx
 go_enter Tryz.func19,Tryz.ntmps19
 go_wp2_with fail
 rw [← HX.out]
 clear HX
 go_loopw [5] (fun vi wr=>∃ m:Nat,m≤c.ops.length∧vi = .int .i64 m∧Below bx.heap.size bx wr) (fun vi _=>c.ops.length - (intOf vi).toNat)
 case atStart=>exact ⟨0,Nat.zero_le _,rfl,Below.refl _ _⟩
 case round=>
  obtain ⟨m,hm,rfl,hbr⟩:=hrel
  obtain ⟨⟨c0,c1,c2,c3⟩,d0,d1,d2,d3⟩:=HC.out _ hbr
  have HBR:=hide hbr
  have hbw:Below w.heap.size w _:=HBX.out.trans (hbr.mono HBX.out.size)
  by_cases hml:m<c.ops.length
  ·obtain ⟨b,o,rfl,hb,hr⟩:=HA.out (by omega)
   obtain ⟨b',o',rfl,hb',hr'⟩:=HR.out (by omega)
   obtain ⟨x0,x1,x2,x3⟩:=hr m hml
   obtain ⟨z0,z1,z2,z3⟩:=hr' m hml
   rw [← hbw.cell (p:=⟨b,o+m * 4,none⟩) hb] at x0
   rw [← hbw.cell (p:=⟨b,o+m * 4+1,none⟩) hb] at x1
   rw [← hbw.cell (p:=⟨b,o+m * 4+2,none⟩) hb] at x2
   rw [← hbw.cell (p:=⟨b,o+m * 4+3,none⟩) hb] at x3
   rw [← hbw.cell (p:=⟨b',o'+m * 4,none⟩) hb'] at z0
   rw [← hbw.cell (p:=⟨b',o'+m * 4+1,none⟩) hb'] at z1
   rw [← hbw.cell (p:=⟨b',o'+m * 4+2,none⟩) hb'] at z2
   rw [← hbw.cell (p:=⟨b',o'+m * 4+3,none⟩) hb'] at z3
   have j3:(0:Int)≤(m:Int):=by omega
   have j4:(m:Int)<(c.ops.length:Int):=by omega
   have hs:=fun W=>op_same W c.ops[m].k c.ops[m].a c.ops[m].b c.ops[m].c
   generalize c.ops[m].k=ok at *
   generalize c.ops[m].a=oa at *
   generalize c.ops[m].b=ob at *
   generalize c.ops[m].c=oc at *
   clear hr hr' hbr hbw hb hb'
   go_wp2_with fail
   go_quiet (fail)
   go_wp2
   go_roundw
   case rel=>exact ⟨m+1,by omega,by go_num,by first | exact HBR.out | exact below_drewN HBR.out _⟩
   case measure=>simp [intOf];omega
  ·have em:m=c.ops.length:=by omega
   subst em
   have z1:¬ (c.ops.length:Int)<(c.ops.length:Int):=by omega
   have HBW:=hide hbw
   clear hbr hbw
   go_wp2_with fail
   refine (H1.out _ HBW.out).mono ?_
   rintro e w1 ⟨rfl,hb1⟩
   clear c0 c1 c2 c3 d0 d1 d2 d3
   have HB1:Hid (Below bx.heap.size bx w1):=hide (HBR.out.trans (hb1.mono HBR.out.size))
   obtain ⟨⟨c0,c1,c2,c3⟩,d0,d1,d2,d3⟩:=HC.out _ HB1.out
   clear hb1
   go_wp2_with fail
   refine (H2.out _ (HBX.out.trans (HB1.out.mono HBX.out.size))).mono ?_
   rintro e w2 ⟨rfl,hb2⟩
   clear c0 c1 c2 c3 d0 d1 d2 d3
   have HB2:Hid (Below bx.heap.size bx w2):=hide (HB1.out.trans (hb2.mono HB1.out.size))
   obtain ⟨⟨c0,c1,c2,c3⟩,d0,d1,d2,d3⟩:=HC.out _ HB2.out
   clear hb2
   go_wp2_with fail
   refine (H3.out _ (HBX.out.trans (HB2.out.mono HBX.out.size))).mono ?_
   rintro e w3 ⟨rfl,hb3⟩
   clear c0 c1 c2 c3 d0 d1 d2 d3
   have HB3:Hid (Below w.heap.size w w3):=hide (HBX.out.trans ((HB2.out.trans (hb3.mono HB2.out.size)).mono HBX.out.size))
   clear hb3
   go_wp2
   go_ret
   exact ⟨rfl,HB3.out⟩
theorem truth_any (w:World) (b:Bool) :
  Calls Tryz.prog 120 #[.bool b] w fun e w'=>e = .returned (.int .i64 (b2i b))∧w=w':=by
 cases b
 all_goals
  go_enter Tryz.func120,Tryz.ntmps120
  go_wp2
  go_ret
  exact ⟨rfl,rfl⟩
theorem rknot_any (w:World) (a:Int) :
  Calls Tryz.prog 98 #[.int .i64 a] w fun e w'=>e = .returned (.int .i64 (b2i (decide (a=0))))∧w=w':=by
 have HN:=hide (fun W b=>truth_any W b)
 go_enter Tryz.func98,Tryz.ntmps98
 go_wp2_with fail
 refine (HN.out _ _).mono ?_
 rintro e w1 ⟨rfl,rfl⟩
 go_wp2
 go_ret
 exact ⟨rfl,rfl⟩
def choF (a b c:Int):Int:=if a≠0 then b else c
theorem choose_any (w:World) (a b c:Int) :
  Calls Tryz.prog 99 #[.int .i64 a,.int .i64 b,.int .i64 c] w fun e w'=>e = .returned (.int .i64 (choF a b c))∧w=w':=by
 by_cases h:a=0
 ·have HF:Hid (choF a b c=c):=hide (by unfold choF;rw [if_neg (by simpa using h)])
  have q:(a != 0)=false:=by rw [h];rfl
  clear h
  go_enter Tryz.func99,Tryz.ntmps99
  go_wp2
  go_ret
  exact ⟨by rw [HF.out];rfl,rfl⟩
 ·have HF:Hid (choF a b c=b):=hide (by unfold choF;rw [if_pos h])
  have q:(a != 0)=true:=by rw [bne_iff_ne];exact h
  clear h
  go_enter Tryz.func99,Tryz.ntmps99
  go_wp2
  go_ret
  exact ⟨by rw [HF.out];rfl,rfl⟩
def quoF (a b:Int):Int:=if b=0 then 0 else if b = -1 then w64 (0 - a) else w64 (a.tdiv b)
theorem quotient_any (w:World) (a b:Int) :
  Calls Tryz.prog 121 #[.int .i64 a,.int .i64 b] w fun e w'=>e = .returned (.int .i64 (quoF a b))∧w=w':=by
 by_cases h:b=0
 ·have HF:Hid (quoF a b=0):=hide (by unfold quoF;rw [if_pos h])
  have q:(b == 0)=true:=by rw [h];rfl
  clear h
  go_enter Tryz.func121,Tryz.ntmps121
  go_wp2
  go_ret
  exact ⟨by rw [HF.out];rfl,rfl⟩
 have q:(b == 0)=false:=by rw [beq_eq_false_iff_ne];exact h
 by_cases h1:b = -1
 ·have HF:Hid (quoF a b=w64 (-a)):=hide (by unfold quoF;rw [if_neg h,if_pos h1,Int.zero_sub])
  have q1:(b == -1)=true:=by rw [h1];rfl
  clear h h1
  go_enter Tryz.func121,Tryz.ntmps121
  go_wp2
  go_ret
  exact ⟨by rw [HF.out];rfl,rfl⟩
 ·have HF:Hid (quoF a b=w64 (a.tdiv b)):=hide (by unfold quoF;rw [if_neg h,if_neg h1])
  have q1:(b == -1)=false:=by rw [beq_eq_false_iff_ne];exact h1
  clear h1
  go_enter Tryz.func121,Tryz.ntmps121
  go_wp2
  go_ret
  exact ⟨by rw [HF.out];rfl,rfl⟩
set_option maxHeartbeats 2000000 in
theorem pair_any (op:Nat) (w:World) (x y:Int) :
  Calls Tryz.prog 100 #[.int .i64 (op:Int),.int .i64 x,.int .i64 y] w fun e w'=>e = .returned (.int .i64 (pairF op x y))∧w=w':=by
 have HN:=hide (fun W b=>truth_any W b)
 have HQ:=hide (fun W=>quotient_any W x y)
 have no:∀ k:Nat,op≠k→((op:Int) == (k:Int))=false:=fun k h=>by rw [beq_eq_false_iff_ne];omega
 by_cases h5:op=5
 ·have HF:Hid (pairF op x y=w64 (x+y)):=hide (by rw [h5];rfl)
  have q:((op:Int) == 5)=true:=by rw [h5];rfl
  clear h5 no
  go_enter Tryz.func100,Tryz.ntmps100
  go_wp2
  go_ret
  exact ⟨by rw [HF.out];rfl,rfl⟩
 have q5:((op:Int) == 5)=false:=no 5 h5
 by_cases h6:op=6
 ·have HF:Hid (pairF op x y=w64 (x - y)):=hide (by rw [h6];rfl)
  have q:((op:Int) == 6)=true:=by rw [h6];rfl
  clear h5 h6 no
  go_enter Tryz.func100,Tryz.ntmps100
  go_wp2
  go_ret
  exact ⟨by rw [HF.out];rfl,rfl⟩
 have q6:((op:Int) == 6)=false:=no 6 h6
 by_cases h7:op=7
 ·have HF:Hid (pairF op x y=w64 (x * y)):=hide (by rw [h7];rfl)
  have q:((op:Int) == 7)=true:=by rw [h7];rfl
  clear h5 h6 h7 no
  go_enter Tryz.func100,Tryz.ntmps100
  go_wp2
  go_ret
  exact ⟨by rw [HF.out];rfl,rfl⟩
 have q7:((op:Int) == 7)=false:=no 7 h7
 by_cases h8:op=8
 ·have HF:Hid (pairF op x y=quoF x y):=hide (by rw [h8];rfl)
  have q:((op:Int) == 8)=true:=by rw [h8];rfl
  clear h5 h6 h7 h8 no
  go_enter Tryz.func100,Tryz.ntmps100
  go_wp2_with fail
  refine (HQ.out _).mono ?_
  rintro e w1 ⟨rfl,rfl⟩
  go_wp2
  go_ret
  exact ⟨by rw [HF.out];rfl,rfl⟩
 have q8:((op:Int) == 8)=false:=no 8 h8
 by_cases h9:op=9
 ·have HF:Hid (pairF op x y=b2i (decide (x<y))):=hide (by rw [h9];rfl)
  have q:((op:Int) == 9)=true:=by rw [h9];rfl
  clear h5 h6 h7 h8 h9 no
  go_enter Tryz.func100,Tryz.ntmps100
  go_wp2_with fail
  refine (HN.out _ _).mono ?_
  rintro e w1 ⟨rfl,rfl⟩
  go_wp2
  go_ret
  exact ⟨by rw [HF.out];rfl,rfl⟩
 have q9:((op:Int) == 9)=false:=no 9 h9
 by_cases h10:op=10
 ·have HF:Hid (pairF op x y=b2i (decide (x=y))):=hide (by rw [h10];rfl)
  have q:((op:Int) == 10)=true:=by rw [h10];rfl
  clear h5 h6 h7 h8 h9 h10 no
  go_enter Tryz.func100,Tryz.ntmps100
  go_wp2_with fail
  refine (HN.out _ _).mono ?_
  rintro e w1 ⟨rfl,rfl⟩
  go_wp2
  go_ret
  exact ⟨by rw [HF.out];rfl,rfl⟩
 have q10:((op:Int) == 10)=false:=no 10 h10
 have hcx:x=0∨(x != 0)=true:=by by_cases e:x=0 <;> simp [e]
 have hcy:y=0∨(y != 0)=true:=by by_cases e:y=0 <;> simp [e]
 by_cases h11:op=11
 ·have HF:Hid (pairF op x y=b2i (decide (x≠0) && decide (y≠0))):=hide (by rw [h11];rfl)
  have q:((op:Int) == 11)=true:=by rw [h11];rfl
  clear h5 h6 h7 h8 h9 h10 h11 no
  rcases hcx with rfl | c1
  ·go_enter Tryz.func100,Tryz.ntmps100
   go_wp2_with fail
   refine (HN.out _ _).mono ?_
   rintro e w1 ⟨rfl,rfl⟩
   go_wp2
   go_ret
   exact ⟨by rw [HF.out];simp_all,rfl⟩
  ·rcases hcy with rfl | c2
   all_goals
    go_enter Tryz.func100,Tryz.ntmps100
    go_wp2_with fail
    refine (HN.out _ _).mono ?_
    rintro e w1 ⟨rfl,rfl⟩
    go_wp2
    go_ret
    exact ⟨by rw [HF.out];simp_all,rfl⟩
 have q11:((op:Int) == 11)=false:=no 11 h11
 by_cases h12:op=12
 ·have HF:Hid (pairF op x y=b2i (decide (x≠0) || decide (y≠0))):=hide (by rw [h12];rfl)
  have q:((op:Int) == 12)=true:=by rw [h12];rfl
  clear h5 h6 h7 h8 h9 h10 h11 h12 no
  rcases hcx with rfl | c1
  ·rcases hcy with rfl | c2
   all_goals
    go_enter Tryz.func100,Tryz.ntmps100
    go_wp2_with fail
    refine (HN.out _ _).mono ?_
    rintro e w1 ⟨rfl,rfl⟩
    go_wp2
    go_ret
    exact ⟨by rw [HF.out];simp_all,rfl⟩
  ·go_enter Tryz.func100,Tryz.ntmps100
   go_wp2_with fail
   refine (HN.out _ _).mono ?_
   rintro e w1 ⟨rfl,rfl⟩
   go_wp2
   go_ret
   exact ⟨by rw [HF.out];simp_all,rfl⟩
 have q12:((op:Int) == 12)=false:=no 12 h12
 have HF:Hid (pairF op x y=0):=hide (by unfold pairF;rw [if_neg h5,if_neg h6,if_neg h7,if_neg h8,if_neg h9,if_neg h10,if_neg h11,if_neg h12])
 clear h5 h6 h7 h8 h9 h10 h11 h12 no
 go_enter Tryz.func100,Tryz.ntmps100
 go_wp2
 go_ret
 exact ⟨by rw [HF.out];rfl,rfl⟩
set_option maxHeartbeats 1000000 in
theorem element_any (w:World) (v:Value) (ins:List (List Int)) (h:LsAt w v ins) (i k:Nat) :
  Calls Tryz.prog 97 #[v,.int .i64 (i:Int),.int .i64 (k:Int)] w fun e w'=>e = .returned (.int .i64 (elemF ins i k))∧w=w':=by
 obtain ⟨A,C,rfl,hm,hc⟩:=h
 by_cases hi:i<ins.length
 ·obtain ⟨b,o,rfl,hb,hr⟩:=hc (by omega)
  obtain ⟨x,hx,A',C',rfl,hm',hc'⟩:=hr i hi
  have j2:¬ (i:Int) ≥ (ins.length:Int):=by omega
  have i1:(0:Int)≤(i:Int):=by omega
  have i2:(i:Int)<(ins.length:Int):=by omega
  by_cases hk:k<ins[i].length
  ·obtain ⟨b',o',rfl,hb',hr'⟩:=hc' (by omega)
   have hv:elemF ins i k=ins[i][k]:=by
    unfold elemF
    rw [List.getD_eq_getElem?_getD,List.getD_eq_getElem?_getD,List.getElem?_eq_getElem hi,Option.getD_some,List.getElem?_eq_getElem hk,Option.getD_some]
   have hx':=hr' k hk
   have HV:=hide hv
   have k1:(0:Int)≤(k:Int):=by omega
   generalize ins[i][k]=z at hx' HV
   have k2:(k:Int)<(ins[i].length:Int):=by omega
   have k3:¬ (k:Int) ≥ (ins[i].length:Int):=by omega
   clear hv hc hc' hr hr' hk
   generalize ins[i].length=n at *
   go_enter Tryz.func97,Tryz.ntmps97
   go_wp2
   go_ret
   exact ⟨by rw [HV.out];rfl,rfl⟩
  ·have hv:elemF ins i k=0:=by
    unfold elemF
    rw [List.getD_eq_getElem?_getD,List.getD_eq_getElem?_getD,List.getElem?_eq_getElem hi,Option.getD_some,List.getElem?_eq_none (Nat.le_of_not_lt hk)];rfl
   have HV:=hide hv
   have k3:(k:Int) ≥ (ins[i].length:Int):=by omega
   clear hv hc hc' hr
   generalize ins[i].length=n at *
   go_enter Tryz.func97,Tryz.ntmps97
   go_wp2
   go_ret
   exact ⟨by rw [HV.out];rfl,rfl⟩
 ·have hv:elemF ins i k=0:=by
   unfold elemF
   have e:ins[i]? = none:=List.getElem?_eq_none (Nat.le_of_not_lt hi)
   rw [List.getD_eq_getElem?_getD,List.getD_eq_getElem?_getD,e];rfl
  have HV:=hide hv
  have j2:(i:Int) ≥ (ins.length:Int):=by omega
  clear hv hc
  go_enter Tryz.func97,Tryz.ntmps97
  go_wp2
  go_ret
  exact ⟨by rw [HV.out];rfl,rfl⟩
structure Beat (w0 w:World) (bq g gb N k:Nat) (X Y:Nat→Int):Prop where
 bel:Below w0.heap.size w0 w
 blk:w.heap[bq]? = some (.cells #[.int .i64 (k:Int),.slice (some ⟨g,0,none⟩) N N,.slice (some ⟨gb,0,none⟩) N N] 87)
 now:w.rowIs g 3 N (fun j=>.int .i64 (X j))
 bef:w0.rowIs gb 3 N (fun j=>.int .i64 (Y j))
 bq0:w0.heap.size≤bq
 g0:w0.heap.size≤g
 ne:g≠bq
theorem Beat.below {w0 w w':World}{bq g gb N k:Nat}{X Y:Nat→Int} (h:Beat w0 w bq g gb N k X Y) (hb:Below w.heap.size w w'):Beat w0 w' bq g gb N k X Y:=by
 have h1:bq<w.heap.size:=by
  have:=h.blk
  exact (Array.getElem?_eq_some_iff.1 this).1
 exact ⟨h.bel.trans (hb.mono h.bel.size),(hb.block _ h1).trans h.blk,h.now.of_block (hb.block _ (World.rowIs.lt h.now)),h.bef,h.bq0,h.g0,h.ne⟩
theorem Beat.set {w0 w:World}{bq g gb N k:Nat}{X Y:Nat→Int} (h:Beat w0 w bq g gb N k X Y) (i:Nat) (v:Int):Beat w0 (w.setCell ⟨g,i,none⟩ (.int .i64 v)) bq g gb N k (fun j=>if j=i then v else X j) Y:=by
 refine ⟨h.bel.setCell h.g0 _,(heap_setCell_other w ⟨g,i,none⟩ bq _ (Ne.symm h.ne)).trans h.blk,(h.now.set i _).congr (fun j _=>?_),h.bef,h.bq0,h.g0,h.ne⟩
 by_cases e:j=i
 ·simp [e]
 ·simp [e]
theorem Beat.drew {w0 w:World}{bq g gb N k:Nat}{X Y:Nat→Int} (h:Beat w0 w bq g gb N k X Y):Beat w0 w.drew bq g gb N k X Y:=
 ⟨h.bel.drew,h.blk,h.now.of_block rfl,h.bef,h.bq0,h.g0,h.ne⟩
theorem Beat.c0 {w0 w:World}{bq g gb N k:Nat}{X Y:Nat→Int} (h:Beat w0 w bq g gb N k X Y):w.cell? ⟨bq,0,none⟩=some (.int .i64 (k:Int)):=(cell_of_row w bq 0 _ _ _ h.blk).trans rfl
theorem Beat.c1 {w0 w:World}{bq g gb N k:Nat}{X Y:Nat→Int} (h:Beat w0 w bq g gb N k X Y):w.cell? ⟨bq,1,none⟩=some (.slice (some ⟨g,0,none⟩) N N):=(cell_of_row w bq 1 _ _ _ h.blk).trans rfl
theorem Beat.c2 {w0 w:World}{bq g gb N k:Nat}{X Y:Nat→Int} (h:Beat w0 w bq g gb N k X Y):w.cell? ⟨bq,2,none⟩=some (.slice (some ⟨gb,0,none⟩) N N):=(cell_of_row w bq 2 _ _ _ h.blk).trans rfl
theorem Beat.x {w0 w:World}{bq g gb N k:Nat}{X Y:Nat→Int} (h:Beat w0 w bq g gb N k X Y) {j:Nat} (hj:j<N):w.cell? ⟨g,j,none⟩=some (.int .i64 (X j)):=h.now.cell hj
theorem Beat.y {w0 w:World}{bq g gb N k:Nat}{X Y:Nat→Int} (h:Beat w0 w bq g gb N k X Y) {j:Nat} (hj:j<N):w.cell? ⟨gb,j,none⟩=some (.int .i64 (Y j)):=
 (h.bel.cell (p:=⟨gb,j,none⟩) (World.rowIs.lt h.bef)).trans (h.bef.cell hj)
theorem Beat.froz {w0 w:World}{bq g gb N k:Nat}{X Y:Nat→Int} (h:Beat w0 w bq g gb N k X Y) (j:Nat):w.frozen? ⟨g,j,none⟩=false:=h.now.frozen j
theorem Beat.alloc {w0 w:World}{bq g gb N k:Nat}{X Y:Nat→Int} (h:Beat w0 w bq g gb N k X Y) (o:Obj):Beat w0 (w.alloc o) bq g gb N k X Y:=h.below ((Below.refl _ _).alloc (Nat.le_refl _) o)
theorem dc_get {ds:List Dc}{b:Nat} (h:b<ds.length):kindAt ds (b:Int)=ds[b].kind∧numAt ds (b:Int)=ds[b].number∧rootAt ds (b:Int)=ds[b].root:=by
 unfold kindAt numAt rootAt
 rw [Int.toNat_natCast,List.getD_eq_getElem?_getD,List.getElem?_eq_getElem h]
 exact ⟨rfl,rfl,rfl⟩
set_option maxHeartbeats 2000000 in
set_option maxRecDepth 100000 in
theorem value_any (w0 w:World) (q:Nat) (ds:List Dc) (ns:List Nd) (vd vn vX:Value) (ins:List (List Int)) (h:ProgAt w0 q ds ns vd vn) (hwf:ProgWf ds ns) (hX:LsAt w0 vX ins)
  (hdc:∀ n∈ns,n.kind=2→0≤n.decl∧n.decl<(ds.length:Int)) (hrt:∀ d∈ds,d.kind≠0→d.root<ns.length)
  (bq g gb k:Nat) (X Y:Nat→Int) (hB:Beat w0 w bq g gb ns.length k X Y) (i:Nat) (hi:i<ns.length) :
  Calls Tryz.prog 67 #[.pointer (some ⟨q,0,none⟩),vX,.int .i64 (i:Int),.pointer (some ⟨bq,0,none⟩)] w fun e w'=>e = .returned (.int .i64 (valF ds ins ns[i] k X Y))∧Below w.heap.size w w':=by
 have c1:=(h.below hB.bel).c1
 obtain ⟨av,cap,rfl,hsh⟩:=own_shape h.decls
 obtain ⟨an,capn,rfl,hshn⟩:=own_shape h.nodes
 obtain ⟨gn,rfl,_,hgn⟩:=hshn (by omega)
 obtain ⟨n,hn⟩:∃ n,n=ns[i]'hi:=⟨_,rfl⟩
 have hnm:n∈ns:=by rw [hn];exact List.getElem_mem hi
 obtain ⟨y0,y1,y2,y3,y4,y5,y6,y7,y8,y9,y10⟩:=nd_later h.nodes hB.bel hgn hi n hn
 obtain ⟨pa,pb,pc⟩:=hwf.parts n hnm
 have hkd:=hwf.kind n hnm
 have j1:(0:Int)≤(i:Int):=by omega
 have j2:(i:Int)<(ns.length:Int):=by omega
 have a1:(0:Int)≤(n.a:Int):=by omega
 have a2:(n.a:Int)<(ns.length:Int):=by omega
 have b1:(0:Int)≤(n.b:Int):=by omega
 have b2:(n.b:Int)<(ns.length:Int):=by omega
 have e1:(0:Int)≤(n.c:Int):=by omega
 have e2:(n.c:Int)<(ns.length:Int):=by omega
 have d0:∀ o,(w.alloc o).cell? ⟨bq,0,none⟩=some (.int .i64 (k:Int)):=fun o=>(hB.alloc o).c0
 have d1:∀ o,(w.alloc o).cell? ⟨bq,1,none⟩=some (.slice (some ⟨g,0,none⟩) ns.length ns.length):=fun o=>(hB.alloc o).c1
 have d2:∀ o,(w.alloc o).cell? ⟨bq,2,none⟩=some (.slice (some ⟨gb,0,none⟩) ns.length ns.length):=fun o=>(hB.alloc o).c2
 have xa:∀ o,(w.alloc o).cell? ⟨g,n.a,none⟩=some (.int .i64 (X n.a)):=fun o=>(hB.alloc o).x pa
 have xb:∀ o,(w.alloc o).cell? ⟨g,n.b,none⟩=some (.int .i64 (X n.b)):=fun o=>(hB.alloc o).x pb
 have xc:∀ o,(w.alloc o).cell? ⟨g,n.c,none⟩=some (.int .i64 (X n.c)):=fun o=>(hB.alloc o).x pc
 have yb:∀ o,(w.alloc o).cell? ⟨gb,n.b,none⟩=some (.int .i64 (Y n.b)):=fun o=>(hB.alloc o).y pb
 rw [← hn]
 have HB:=hide hB
 have HP:=hide h
 have HX:=hide hX
 have HSH:=hide hsh
 have HRT:=hide hrt
 have no:∀ k:Nat,n.kind≠k→((n.kind:Int) == (k:Int))=false:=fun k h=>by rw [beq_eq_false_iff_ne];omega
 have hn2:=hdc n hnm
 clear hsh hshn hB h hX hn hdc hrt hnm
 by_cases k2:n.kind=2
 ·have q2:((n.kind:Int) == 2)=true:=by rw [k2];rfl
  obtain ⟨hd1,hd2⟩:=hn2 k2
  obtain ⟨b,hb⟩:∃ b:Nat,n.decl=(b:Int):=⟨n.decl.toNat,by omega⟩
  rw [hb] at y4
  have hbl:b<ds.length:=by omega
  obtain ⟨ga,rfl,_,hga⟩:=HSH.out (by omega)
  obtain ⟨d,hd⟩:∃ d,d=ds[b]'hbl:=⟨_,rfl⟩
  have hdm:d∈ds:=by rw [hd];exact List.getElem_mem hbl
  have hbel1:∀ o,Below w0.heap.size w0 (w.alloc o):=fun o=>(HB.out.alloc o).bel
  have x0:∀ o,(w.alloc o).cell? ⟨ga,b * 7,none⟩=some (.int .i64 (d.kind:Int)):=fun o=>(dc_later HP.out.decls (hbel1 o) hga hbl d hd).1
  have x1:∀ o,(w.alloc o).cell? ⟨ga,b * 7+1,none⟩=some (.int .i64 (d.number:Int)):=fun o=>(dc_later HP.out.decls (hbel1 o) hga hbl d hd).2.1
  have x2:∀ o,(w.alloc o).cell? ⟨ga,b * 7+2,none⟩=some (.string d.name):=fun o=>(dc_later HP.out.decls (hbel1 o) hga hbl d hd).2.2.1
  have x3:∀ o,(w.alloc o).cell? ⟨ga,b * 7+3,none⟩=some (.int .i64 (d.pos:Int)):=fun o=>(dc_later HP.out.decls (hbel1 o) hga hbl d hd).2.2.2.1
  have x4:∀ o,(w.alloc o).cell? ⟨ga,b * 7+4,none⟩=some (.int .i64 (d.place:Int)):=fun o=>(dc_later HP.out.decls (hbel1 o) hga hbl d hd).2.2.2.2.1
  have x5:∀ o,(w.alloc o).cell? ⟨ga,b * 7+5,none⟩=some (.int .i64 (d.root:Int)):=fun o=>(dc_later HP.out.decls (hbel1 o) hga hbl d hd).2.2.2.2.2.1
  have x6:∀ o,(w.alloc o).cell? ⟨ga,b * 7+6,none⟩=some (.int .i64 (d.fin:Int)):=fun o=>(dc_later HP.out.decls (hbel1 o) hga hbl d hd).2.2.2.2.2.2
  have p0:∀ o,(w.alloc o).cell? ⟨q,0,none⟩=some (.slice (some ⟨ga,0,none⟩) ds.length cap):=fun o=>(HP.out.below (hbel1 o)).c0
  have hbel2:∀ o o',Below w0.heap.size w0 ((w.alloc o).alloc o'):=fun o o'=>((HB.out.alloc o).alloc o').bel
  have x0':∀ o o',((w.alloc o).alloc o').cell? ⟨ga,b * 7,none⟩=some (.int .i64 (d.kind:Int)):=fun o o'=>(dc_later HP.out.decls (hbel2 o o') hga hbl d hd).1
  have x1':∀ o o',((w.alloc o).alloc o').cell? ⟨ga,b * 7+1,none⟩=some (.int .i64 (d.number:Int)):=fun o o'=>(dc_later HP.out.decls (hbel2 o o') hga hbl d hd).2.1
  have x2':∀ o o',((w.alloc o).alloc o').cell? ⟨ga,b * 7+2,none⟩=some (.string d.name):=fun o o'=>(dc_later HP.out.decls (hbel2 o o') hga hbl d hd).2.2.1
  have x3':∀ o o',((w.alloc o).alloc o').cell? ⟨ga,b * 7+3,none⟩=some (.int .i64 (d.pos:Int)):=fun o o'=>(dc_later HP.out.decls (hbel2 o o') hga hbl d hd).2.2.2.1
  have x4':∀ o o',((w.alloc o).alloc o').cell? ⟨ga,b * 7+4,none⟩=some (.int .i64 (d.place:Int)):=fun o o'=>(dc_later HP.out.decls (hbel2 o o') hga hbl d hd).2.2.2.2.1
  have x5':∀ o o',((w.alloc o).alloc o').cell? ⟨ga,b * 7+5,none⟩=some (.int .i64 (d.root:Int)):=fun o o'=>(dc_later HP.out.decls (hbel2 o o') hga hbl d hd).2.2.2.2.2.1
  have x6':∀ o o',((w.alloc o).alloc o').cell? ⟨ga,b * 7+6,none⟩=some (.int .i64 (d.fin:Int)):=fun o o'=>(dc_later HP.out.decls (hbel2 o o') hga hbl d hd).2.2.2.2.2.2
  have p0':∀ o o',((w.alloc o).alloc o').cell? ⟨q,0,none⟩=some (.slice (some ⟨ga,0,none⟩) ds.length cap):=fun o o'=>(HP.out.below (hbel2 o o')).c0
  have z4:∀ o',((w.alloc (.cells #[.int .i64 (n.kind:Int),.int .i64 (n.pos:Int),.int .i64 (n.value:Int),.string n.name,.int .i64 (b:Int),.int .i64 (n.op:Int),.int .i64 (n.a:Int),.int .i64 (n.b:Int),.int .i64 (n.c:Int),.bool n.delayed,.bool n.behind] 126)).alloc o').cell? ⟨w.heap.size,4,none⟩=some (.int .i64 (b:Int)):=fun o'=>(World.cell?_alloc_past _ _ _ (by simp)).trans ((World.cell?_alloc_at _ _ _ _ rfl).trans rfl)
  have t1:(0:Int)≤(b:Int):=by omega
  have t2:(b:Int)<(ds.length:Int):=by omega
  obtain ⟨g1,g2,g3⟩:=dc_get hbl
  rw [← hd] at g1 g2 g3
  have hv:valF ds ins n k X Y=nameF ds ins (b:Int) k X:=by unfold valF;rw [if_pos k2,hb]
  have d0':∀ o o',((w.alloc o).alloc o').cell? ⟨bq,0,none⟩=some (.int .i64 (k:Int)):=fun o o'=>((HB.out.alloc o).alloc o').c0
  have d1':∀ o o',((w.alloc o).alloc o').cell? ⟨bq,1,none⟩=some (.slice (some ⟨g,0,none⟩) ns.length ns.length):=fun o o'=>((HB.out.alloc o).alloc o').c1
  by_cases hk0:d.kind=0
  ·have q0:((d.kind:Int) == 0)=true:=by rw [hk0];rfl
   have HF:Hid (valF ds ins n k X Y=elemF ins d.number k):=hide (by rw [hv];unfold nameF;rw [g1,if_pos hk0,g2])
   have HE:=hide (fun W hW=>element_any W vX ins hW d.number k)
   clear k2 hn2 hv g1 g2 g3 hd hdm hk0 no hb hd1 hd2
   go_enter Tryz.func67,Tryz.ntmps67
   go_wp2_with fail
   go_big_region
   go_wp2_with fail
   go_region_held3 (fun w'=>w'.cell? ⟨bq,0,none⟩=some (.int .i64 (k:Int))∧w'.cell? ⟨w.heap.size+1,1,none⟩=some (.int .i64 (d.number:Int))) (go_keep) ((go_at_call 97;refine (HE.out _ (by first | exact HX.out.below ((HB.out.alloc _).alloc _).drew.bel | exact HX.out.below ((HB.out.alloc _).alloc _).drew.drew.bel)).mono ?_;rintro e w3 ⟨rfl,hw3⟩;subst hw3))
   rename_i hHeld
   clear hHeld
   go_wp2
   go_ret
   exact ⟨by rw [HF.out];rfl,by first | exact (((Below.refl _ _).alloc (Nat.le_refl _) _).alloc (by simp) _).drew | exact (((Below.refl _ _).alloc (Nat.le_refl _) _).alloc (by simp) _).drew.drew⟩
  ·have q0:((d.kind:Int) == 0)=false:=by rw [beq_eq_false_iff_ne];omega
   have hrl:=HRT.out d hdm hk0
   have HF:Hid (valF ds ins n k X Y=X d.root):=hide (by rw [hv];unfold nameF;rw [g1,if_neg hk0,g3])
   have xr:∀ o o',((w.alloc o).alloc o').cell? ⟨g,d.root,none⟩=some (.int .i64 (X d.root)):=fun o o'=>((HB.out.alloc o).alloc o').x hrl
   have r1:(0:Int)≤(d.root:Int):=by omega
   have r2:(d.root:Int)<(ns.length:Int):=by omega
   clear k2 hn2 hv g1 g2 g3 hd hdm hk0 no hb hd1 hd2
   go_enter Tryz.func67,Tryz.ntmps67
   go_wp2_with fail
   go_big_region
   go_wp2_with fail
   go_big_region
   go_wp2
   go_ret
   exact ⟨by rw [HF.out];rfl,by first | exact (((Below.refl _ _).alloc (Nat.le_refl _) _).alloc (by simp) _).drew | exact (((Below.refl _ _).alloc (Nat.le_refl _) _).alloc (by simp) _).drew.drew⟩
 have q2:((n.kind:Int) == 2)=false:=no 2 k2
 by_cases k3:n.kind=3
 ·have q3:((n.kind:Int) == 3)=true:=by rw [k3];rfl
  have HF:Hid (valF ds ins n k X Y=b2i (decide (X n.a=0))):=hide (by unfold valF;rw [if_neg k2,if_pos k3])
  have HN:=hide (fun W=>rknot_any W (X n.a))
  clear k2 k3 hn2 no
  go_enter Tryz.func67,Tryz.ntmps67
  go_wp2_with fail
  go_region_held3 (fun w'=>w'.cell? ⟨bq,1,none⟩=some (.slice (some ⟨g,0,none⟩) ns.length ns.length)∧w'.cell? ⟨w.heap.size,6,none⟩=some (.int .i64 (n.a:Int))∧w'.cell? ⟨g,n.a,none⟩=some (.int .i64 (X n.a))) (go_keep) ((go_at_call 98;refine (HN.out _).mono ?_;rintro e w3 ⟨rfl,hw3⟩;subst hw3))
  rename_i hHeld
  clear hHeld
  go_wp2
  go_ret
  exact ⟨by rw [HF.out];rfl,by first | exact below_drewN ((Below.refl _ _).alloc (Nat.le_refl _) _) _ | exact ((Below.refl _ _).alloc (Nat.le_refl _) _).drew⟩
 have q3:((n.kind:Int) == 3)=false:=no 3 k3
 by_cases k4:n.kind=4
 ·have q4:((n.kind:Int) == 4)=true:=by rw [k4];rfl
  have HF:Hid (valF ds ins n k X Y=choF (X n.a) (X n.b) (X n.c)):=hide (by unfold valF choF;rw [if_neg k2,if_neg k3,if_pos k4])
  have HN:=hide (fun W=>choose_any W (X n.a) (X n.b) (X n.c))
  clear k2 k3 k4 hn2 no
  go_enter Tryz.func67,Tryz.ntmps67
  go_wp2_with fail
  go_region_held3 (fun w'=>w'.cell? ⟨bq,1,none⟩=some (.slice (some ⟨g,0,none⟩) ns.length ns.length)∧w'.cell? ⟨w.heap.size,6,none⟩=some (.int .i64 (n.a:Int))∧w'.cell? ⟨w.heap.size,7,none⟩=some (.int .i64 (n.b:Int))∧w'.cell? ⟨w.heap.size,8,none⟩=some (.int .i64 (n.c:Int))∧w'.cell? ⟨g,n.a,none⟩=some (.int .i64 (X n.a))∧w'.cell? ⟨g,n.b,none⟩=some (.int .i64 (X n.b))∧w'.cell? ⟨g,n.c,none⟩=some (.int .i64 (X n.c))) (go_keep) ((go_at_call 99;refine (HN.out _).mono ?_;rintro e w3 ⟨rfl,hw3⟩;subst hw3))
  rename_i hHeld
  clear hHeld
  go_wp2
  go_ret
  exact ⟨by rw [HF.out];rfl,by first | exact below_drewN ((Below.refl _ _).alloc (Nat.le_refl _) _) _ | exact ((Below.refl _ _).alloc (Nat.le_refl _) _).drew⟩
 have q4:((n.kind:Int) == 4)=false:=no 4 k4
 by_cases k5:n.kind=5
 ·have q5:((n.kind:Int) == 5)=true:=by rw [k5];rfl
  by_cases hk0:k=0
  ·have q6:((k:Int) == 0)=true:=by rw [hk0];rfl
   have HF:Hid (valF ds ins n k X Y=X n.a):=hide (by unfold valF;rw [if_neg k2,if_neg k3,if_neg k4,if_pos k5,if_pos hk0])
   clear k2 k3 k4 k5 hn2 no hk0
   go_enter Tryz.func67,Tryz.ntmps67
   go_wp2_with fail
   go_quiet (fail)
   go_wp2
   go_ret
   exact ⟨by rw [HF.out];rfl,by first | exact below_drewN ((Below.refl _ _).alloc (Nat.le_refl _) _) _ | exact ((Below.refl _ _).alloc (Nat.le_refl _) _).drew⟩
  ·have q6:((k:Int) == 0)=false:=by rw [beq_eq_false_iff_ne];omega
   have HF:Hid (valF ds ins n k X Y=Y n.b):=hide (by unfold valF;rw [if_neg k2,if_neg k3,if_neg k4,if_pos k5,if_neg hk0])
   clear k2 k3 k4 k5 hn2 no hk0
   go_enter Tryz.func67,Tryz.ntmps67
   go_wp2_with fail
   go_quiet (fail)
   go_wp2
   go_ret
   exact ⟨by rw [HF.out];rfl,by first | exact below_drewN ((Below.refl _ _).alloc (Nat.le_refl _) _) _ | exact ((Below.refl _ _).alloc (Nat.le_refl _) _).drew⟩
 have q5:((n.kind:Int) == 5)=false:=no 5 k5
 by_cases k6:n.kind=6
 ·have q6:((n.kind:Int) == 6)=true:=by rw [k6];rfl
  have HF:Hid (valF ds ins n k X Y=pairF n.op (X n.a) (X n.b)):=hide (by unfold valF;rw [if_neg k2,if_neg k3,if_neg k4,if_neg k5,if_pos k6])
  have HN:=hide (fun W=>pair_any n.op W (X n.a) (X n.b))
  clear k2 k3 k4 k5 k6 hn2 no
  go_enter Tryz.func67,Tryz.ntmps67
  go_wp2_with fail
  go_region_held3 (fun w'=>w'.cell? ⟨bq,1,none⟩=some (.slice (some ⟨g,0,none⟩) ns.length ns.length)∧w'.cell? ⟨w.heap.size,5,none⟩=some (.int .i64 (n.op:Int))∧w'.cell? ⟨w.heap.size,6,none⟩=some (.int .i64 (n.a:Int))∧w'.cell? ⟨w.heap.size,7,none⟩=some (.int .i64 (n.b:Int))∧w'.cell? ⟨g,n.a,none⟩=some (.int .i64 (X n.a))∧w'.cell? ⟨g,n.b,none⟩=some (.int .i64 (X n.b))) (go_keep) ((go_at_call 100;refine (HN.out _).mono ?_;rintro e w3 ⟨rfl,hw3⟩;subst hw3))
  rename_i hHeld
  clear hHeld
  go_wp2
  go_ret
  exact ⟨by rw [HF.out];rfl,by first | exact below_drewN ((Below.refl _ _).alloc (Nat.le_refl _) _) _ | exact ((Below.refl _ _).alloc (Nat.le_refl _) _).drew⟩
 ·have q6:((n.kind:Int) == 6)=false:=no 6 k6
  have HF:Hid (valF ds ins n k X Y=(n.value:Int)):=hide (by unfold valF;rw [if_neg k2,if_neg k3,if_neg k4,if_neg k5,if_neg k6])
  clear k2 k3 k4 k5 k6 hn2 no
  go_enter Tryz.func67,Tryz.ntmps67
  go_wp2
  go_ret
  exact ⟨by rw [HF.out];rfl,(Below.refl _ _).alloc (Nat.le_refl _) _⟩
theorem val_congr {ds:List Dc}{ins:List (List Int)}{n:Nd}{k:Nat}{X X' Y Y':Nat→Int} (h1:∀ c∈needs n,X c=X' c) (h2:n.kind=2→kindAt ds n.decl≠0→X (rootAt ds n.decl)=X' (rootAt ds n.decl)) (h3:n.kind=5→k≠0→Y n.b=Y' n.b) :
  valF ds ins n k X Y=valF ds ins n k X' Y':=by
 unfold valF
 by_cases k2:n.kind=2
 ·rw [if_pos k2,if_pos k2]
  unfold nameF
  by_cases hk:kindAt ds n.decl=0
  ·rw [if_pos hk,if_pos hk]
  ·rw [if_neg hk,if_neg hk,h2 k2 hk]
 rw [if_neg k2,if_neg k2]
 by_cases k3:n.kind=3
 ·rw [if_pos k3,if_pos k3,h1 n.a (by simp [needs,k3])]
 rw [if_neg k3,if_neg k3]
 by_cases k4:n.kind=4
 ·rw [if_pos k4,if_pos k4,h1 n.a (by simp [needs,k4]),h1 n.b (by simp [needs,k4]),h1 n.c (by simp [needs,k4])]
 rw [if_neg k4,if_neg k4]
 by_cases k5:n.kind=5
 ·rw [if_pos k5,if_pos k5]
  by_cases hk:k=0
  ·rw [if_pos hk,if_pos hk,h1 n.a (by simp [needs,k5])]
  ·rw [if_neg hk,if_neg hk,h3 k5 hk]
 rw [if_neg k5,if_neg k5]
 by_cases k6:n.kind=6
 ·rw [if_pos k6,if_pos k6,h1 n.a (by simp [needs,k6]),h1 n.b (by simp [needs,k6])]
 rw [if_neg k6,if_neg k6]
structure DoneT (ds:List Dc) (ns:List Nd) (V:Nat→Int) (T:List Nat) (j:Nat) (X:Nat→Int):Prop where
 all:∀ t∈T.take j,∀ d,ds[t]? = some d→∀ i,d.root≤i→i<d.fin→dlAt ns i=false→X i=V i
theorem DoneT.set {ds:List Dc}{ns:List Nd}{V:Nat→Int}{T:List Nat}{j:Nat}{X:Nat→Int} (h:DoneT ds ns V T j X) (i:Nat):DoneT ds ns V T j (fun c=>if c=i then V i else X c):=by
 refine ⟨fun t ht d hd c h1 h2 h3=>?_⟩
 by_cases e:c=i
 ·simp [e]
 ·simp only [if_neg e];exact h.all t ht d hd c h1 h2 h3
theorem turn_val {ds:List Dc}{ns:List Nd}{ins:List (List Int)}{NV:Nat→Nat→Int}{T:List Nat} (hM:Meant ds ns ins NV) (hO:OrdOk ds (markAll ds ns 0 ds noM) T) {k j t:Nat}{X Y:Nat→Int} (hD:DoneT ds ns (NV k) T j X)
  (hY:k≠0→∀ c,c<ns.length→Y c=NV (k - 1) c) (hpb:∀ n∈ns,n.b<ns.length) (ht:T[j]? = some t) {d:Dc} (hd:ds[t]? = some d) {i:Nat} (hi:i<ns.length) (h1:d.root≤i) (h2:i<d.fin)
  (hl:(ns[i]'hi).delayed=false) (hin:∀ c,i<c→c<d.fin→dlAt ns c=false→X c=NV k c):valF ds ins (ns[i]'hi) k X Y=NV k i:=by
 have hn:ns[i]? = some (ns[i]'hi):=List.getElem?_eq_getElem hi
 obtain ⟨d',hd',hk⟩:=hO.eqn t (List.mem_of_getElem? ht)
 rw [hd] at hd'
 cases hd'
 rw [hM.val i _ hn k]
 refine val_congr (fun c hc=>?_) (fun k2 hq=>?_) (fun k5 h0=>hY h0 _ (hpb _ (List.getElem_mem hi)))
 ·obtain ⟨g1,g2,g3⟩:=hM.kids t d hd hk i _ hn h1 h2 c hc
  exact hin c g1 g2 (by rw [g3];exact hl)
 ·have hm:=hM.hang t d hd hk i _ hn h1 h2 k2 hl hq
  obtain ⟨dd1,dd2⟩:=hM.decl _ (List.getElem_mem hi) k2
  have hlt:(ns[i]'hi).decl.toNat<ds.length:=by omega
  have hdb:ds[(ns[i]'hi).decl.toNat]? = some (ds[(ns[i]'hi).decl.toNat]'hlt):=List.getElem?_eq_getElem hlt
  have e1:kindAt ds (ns[i]'hi).decl=(ds[(ns[i]'hi).decl.toNat]'hlt).kind:=by unfold kindAt;rw [List.getD_eq_getElem?_getD,hdb];rfl
  have e2:rootAt ds (ns[i]'hi).decl=(ds[(ns[i]'hi).decl.toNat]'hlt).root:=by unfold rootAt;rw [List.getD_eq_getElem?_getD,hdb];rfl
  rw [e1] at hq
  rw [e2]
  have hmem:=hO.topo j t ht _ hm
  obtain ⟨_,r2⟩:=hM.root _ _ hdb hq
  obtain ⟨s1,s2⟩:=hM.segs _ _ hdb hq
  exact hD.all _ hmem _ hdb _ (Nat.le_refl _) s1 r2
theorem late_val {ds:List Dc}{ns:List Nd}{ins:List (List Int)}{NV:Nat→Nat→Int} (hM:Meant ds ns ins NV) {k:Nat}{X Y:Nat→Int}
  (hY:k≠0→∀ c,c<ns.length→Y c=NV (k - 1) c) (hpb:∀ n∈ns,n.b<ns.length) {i:Nat} (hi:i<ns.length) (hp:∀ c,c<ns.length→dlAt ns c=false→X c=NV k c) (hq:∀ c,i<c→c<ns.length→X c=NV k c):valF ds ins (ns[i]'hi) k X Y=NV k i:=by
 have hn:ns[i]? = some (ns[i]'hi):=List.getElem?_eq_getElem hi
 obtain ⟨a,d,hd,hk,h1,h2⟩:=hM.cover i hi
 rw [hM.val i _ hn k]
 refine val_congr (fun c hc=>?_) (fun k2 hz=>?_) (fun k5 h0=>hY h0 _ (hpb _ (List.getElem_mem hi)))
 ·obtain ⟨g1,g2,g3⟩:=hM.kids a d hd hk i _ hn h1 h2 c hc
  have:=(hM.segs a d hd hk).2
  exact hq c g1 (by omega)
 ·obtain ⟨dd1,dd2⟩:=hM.decl _ (List.getElem_mem hi) k2
  have hlt:(ns[i]'hi).decl.toNat<ds.length:=by omega
  have hdb:ds[(ns[i]'hi).decl.toNat]? = some (ds[(ns[i]'hi).decl.toNat]'hlt):=List.getElem?_eq_getElem hlt
  have e1:kindAt ds (ns[i]'hi).decl=(ds[(ns[i]'hi).decl.toNat]'hlt).kind:=by unfold kindAt;rw [List.getD_eq_getElem?_getD,hdb];rfl
  have e2:rootAt ds (ns[i]'hi).decl=(ds[(ns[i]'hi).decl.toNat]'hlt).root:=by unfold rootAt;rw [List.getD_eq_getElem?_getD,hdb];rfl
  rw [e1] at hz
  rw [e2]
  obtain ⟨r1,r2⟩:=hM.root _ _ hdb hz
  exact hp _ r1 r2
end Go.Proofs.YtecegaflhdgfaaaGreat
