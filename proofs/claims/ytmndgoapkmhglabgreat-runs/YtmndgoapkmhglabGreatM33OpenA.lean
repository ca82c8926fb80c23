import Derived.Deep.OwnRows
import Derived.Laws.StructEq
import Derived.Test.YtmndgoapkmhglabGreatM00Base
import Derived.Test.YtmndgoapkmhglabGreatM23RefK
import Derived.Test.YtmndgoapkmhglabGreatM30RunX
import Derived.Test.YtmndgoapkmhglabGreatM31LawP
import Derived.Test.YtmndgoapkmhglabGreatM32OpenT
namespace Go.Proofs.YtmndgoapkmhglabGreat
open Go.RowKit
theorem ops_none {w:World}{A:Option Addr}{C:Nat}{sc:List OpF} (h:OpsAt w (.slice A sc.length C) sc):A=none→sc=[]:=by
 intro hA
 obtain ⟨A',C',he,_,hc⟩:=h
 simp only [Value.slice.injEq,true_and] at he
 obtain ⟨rfl,rfl⟩:=he
 rcases Nat.eq_zero_or_pos sc.length with h0 | hp
 ·exact List.eq_nil_of_length_eq_zero h0
 ·obtain ⟨b,o,e,_⟩:=hc hp
  rw [hA] at e;cases e
def EvBox (w:World) (A:Nat) (k a d n:Int) (vT vV:Value):Prop:=w.rowIs A 38 6 (fun i=>if i=0 then .int .i64 k else if i=1 then .int .i64 a else if i=2 then .int .i64 d else if i=3 then .int .i64 n else if i=4 then vT else vV)
theorem EvBox.boxed (w:World) (k a d n:Int) (vT vV:Value):EvBox (w.alloc (.cells #[.int .i64 k,.int .i64 a,.int .i64 d,.int .i64 n,vT,vV] 38)) w.heap.size k a d n vT vV:=
 World.rowIs_alloc w #[.int .i64 k,.int .i64 a,.int .i64 d,.int .i64 n,vT,vV] _ _ (fun i hi=>by
  have:i<6:=hi
  have:i=0∨i=1∨i=2∨i=3∨i=4∨i=5:=by omega
  rcases this with rfl | rfl | rfl | rfl | rfl | rfl <;> rfl)
end Go.Proofs.YtmndgoapkmhglabGreat
namespace Go.Proofs.YtmndgoapkmhglabGreat
open Go.RowKit
attribute [local go_sem ↓] Go.wp_at_zero Go.wp_at_succ
theorem rnumber_any (w:World) (b:Bool) :
  Calls Tryz.prog 80 #[.bool b] w fun e w'=>e = .returned (.int .i64 (b2i b))∧Below w.heap.size w w':=by
 cases b
 all_goals
  go_enter Tryz.func80,Tryz.ntmps80
  go_wp2
  go_ret
  exact ⟨rfl,Below.refl _ _⟩
set_option maxHeartbeats 2000000 in
theorem rapply_any (o:ByteArray) (w:World) (x y:Int) :
  Calls Tryz.prog 102 #[.string o,.int .i64 x,.int .i64 y] w fun e w'=>e = .returned (.int .i64 (apF o.data.toList x y))∧Below w.heap.size w w':=by
 by_cases h1:o.data.toList=[43]
 ·have HF:Hid (apF o.data.toList x y=w64 (x+y)):=hide (by rw [h1];rfl)
  have q1:=str_yes h1
  clear h1
  go_enter Tryz.func102,Tryz.ntmps102
  go_wp2
  go_ret
  exact ⟨by rw [HF.out];rfl,Below.refl _ _⟩
 have q1:=str_no h1
 by_cases h2:o.data.toList=[45]
 ·have HF:Hid (apF o.data.toList x y=w64 (x - y)):=hide (by rw [h2];rfl)
  have q2:=str_yes h2
  clear h1 h2
  go_enter Tryz.func102,Tryz.ntmps102
  go_wp2
  go_ret
  exact ⟨by rw [HF.out];rfl,Below.refl _ _⟩
 have q2:=str_no h2
 by_cases h3:o.data.toList=[42]
 ·have HF:Hid (apF o.data.toList x y=w64 (x * y)):=hide (by rw [h3];rfl)
  have q3:=str_yes h3
  clear h1 h2 h3
  go_enter Tryz.func102,Tryz.ntmps102
  go_wp2
  go_ret
  exact ⟨by rw [HF.out];rfl,Below.refl _ _⟩
 have q3:=str_no h3
 by_cases h4:o.data.toList=[47]
 ·have q4:=str_yes h4
  by_cases hy:y=0
  ·have HF:Hid (apF o.data.toList x y=0):=hide (by rw [h4,hy];rfl)
   have q5:(y == 0)=true:=by rw [hy];rfl
   clear h1 h2 h3 h4 hy
   go_enter Tryz.func102,Tryz.ntmps102
   go_wp2
   go_ret
   exact ⟨by rw [HF.out];rfl,Below.refl _ _⟩
  ·have HF:Hid (apF o.data.toList x y=w64 (x.tdiv y)):=hide (by rw [h4];show (if y=0 then 0 else w64 (x.tdiv y))=_;rw [if_neg hy])
   have q5:(y == 0)=false:=by rw [beq_eq_false_iff_ne];exact hy
   clear h1 h2 h3 h4
   go_enter Tryz.func102,Tryz.ntmps102
   go_wp2
   go_ret
   exact ⟨by rw [HF.out];rfl,Below.refl _ _⟩
 have q4:=str_no h4
 by_cases h5:o.data.toList=[60]
 ·have HF:Hid (apF o.data.toList x y=b2i (decide (x<y))):=hide (by rw [h5];rfl)
  have q5:=str_yes h5
  have HN:=hide (fun W b=>rnumber_any W b)
  clear h1 h2 h3 h4 h5
  go_enter Tryz.func102,Tryz.ntmps102
  go_wp2_with fail
  refine (HN.out _ _).mono ?_
  rintro e w1 ⟨rfl,hb1⟩
  go_wp2
  go_ret
  exact ⟨by rw [HF.out];rfl,hb1⟩
 have q5:=str_no h5
 by_cases h6:o.data.toList=[61]
 ·have HF:Hid (apF o.data.toList x y=b2i (decide (x=y))):=hide (by rw [h6];rfl)
  have q6:=str_yes h6
  have HN:=hide (fun W b=>rnumber_any W b)
  clear h1 h2 h3 h4 h5 h6
  go_enter Tryz.func102,Tryz.ntmps102
  go_wp2_with fail
  refine (HN.out _ _).mono ?_
  rintro e w1 ⟨rfl,hb1⟩
  go_wp2
  go_ret
  exact ⟨by rw [HF.out];rfl,hb1⟩
 have q6:=str_no h6
 have HN:=hide (fun W b=>rnumber_any W b)
 have hcx:x=1∨(x == 1)=false:=by by_cases e:x=1 <;> simp [e]
 have hcy:y=1∨(y == 1)=false:=by by_cases e:y=1 <;> simp [e]
 by_cases h7:o.data.toList=[38]
 ·have HF:Hid (apF o.data.toList x y=b2i (decide (x=1) && decide (y=1))):=hide (by rw [h7];rfl)
  have q7:=str_yes h7
  clear h1 h2 h3 h4 h5 h6 h7
  rcases hcx with rfl | c1
  ·rcases hcy with rfl | c2
   all_goals
    go_enter Tryz.func102,Tryz.ntmps102
    go_wp2_with fail
    refine (HN.out _ _).mono ?_
    rintro e w1 ⟨rfl,hb1⟩
    go_wp2
    go_ret
    exact ⟨by rw [HF.out];simp_all,hb1⟩
  ·go_enter Tryz.func102,Tryz.ntmps102
   go_wp2_with fail
   refine (HN.out _ _).mono ?_
   rintro e w1 ⟨rfl,hb1⟩
   go_wp2
   go_ret
   exact ⟨by rw [HF.out];simp_all,hb1⟩
 have q7:=str_no h7
 have HF:Hid (apF o.data.toList x y=b2i (decide (x=1) || decide (y=1))):=hide (by unfold apF;rw [if_neg h1,if_neg h2,if_neg h3,if_neg h4,if_neg h5,if_neg h6,if_neg h7])
 clear h1 h2 h3 h4 h5 h6 h7
 rcases hcx with rfl | c1
 ·go_enter Tryz.func102,Tryz.ntmps102
  go_wp2_with fail
  refine (HN.out _ _).mono ?_
  rintro e w1 ⟨rfl,hb1⟩
  go_wp2
  go_ret
  exact ⟨by rw [HF.out];simp_all,hb1⟩
 ·rcases hcy with rfl | c2
  all_goals
   go_enter Tryz.func102,Tryz.ntmps102
   go_wp2_with fail
   refine (HN.out _ _).mono ?_
   rintro e w1 ⟨rfl,hb1⟩
   go_wp2
   go_ret
   exact ⟨by rw [HF.out];simp_all,hb1⟩
set_option maxHeartbeats 1000000 in
theorem relement_any (w:World) (v:Value) (ins:List (List Int)) (h:LsAt w v ins) (i k:Nat) :
  Calls Tryz.prog 115 #[v,.int .i64 (i:Int),.int .i64 (k:Int)] w fun e w'=>e = .returned (.int .i64 (elemF ins i k))∧Below w.heap.size w w':=by
 obtain ⟨A,C,rfl,hm,hc⟩:=h
 by_cases hi:i<ins.length
 ·obtain ⟨b,o,rfl,hb,hr⟩:=hc (by omega)
  obtain ⟨x,hx,A',C',rfl,hm',hc'⟩:=hr i hi
  have j1:¬ (i:Int)<0:=by omega
  have j2:¬ (i:Int) ≥ (ins.length:Int):=by omega
  have j3:¬ (k:Int)<0:=by omega
  have i1:(0:Int)≤(i:Int):=by omega
  have i2:(i:Int)<(ins.length:Int):=by omega
  by_cases hk:k<ins[i].length
  ·obtain ⟨b',o',rfl,hb',hr'⟩:=hc' (by omega)
   have hv:elemF ins i k=ins[i][k]:=by
    unfold elemF
    rw [List.getD_eq_getElem?_getD,List.getD_eq_getElem?_getD,List.getElem?_eq_getElem hi,Option.getD_some,List.getElem?_eq_getElem hk,Option.getD_some]
   have hx':=hr' k hk
   have HV:=hide hv
   have k1:(0:Int)≤(k:Int):=by omega
   generalize ins[i][k]=z at hx' HV
   have k2:(k:Int)<(ins[i].length:Int):=by omega
   have k3:¬ (k:Int) ≥ (ins[i].length:Int):=by omega
   clear hv hc hc' hr hr' hk
   generalize ins[i].length=n at *
   go_enter Tryz.func115,Tryz.ntmps115
   go_wp2
   go_ret
   exact ⟨by rw [HV.out];rfl,Below.refl _ _⟩
  ·have hv:elemF ins i k=0:=by
    unfold elemF
    rw [List.getD_eq_getElem?_getD,List.getD_eq_getElem?_getD,List.getElem?_eq_getElem hi,Option.getD_some,List.getElem?_eq_none (Nat.le_of_not_lt hk)];rfl
   have HV:=hide hv
   have k3:(k:Int) ≥ (ins[i].length:Int):=by omega
   clear hv hc hc' hr
   generalize ins[i].length=n at *
   go_enter Tryz.func115,Tryz.ntmps115
   go_wp2
   go_ret
   exact ⟨by rw [HV.out];rfl,Below.refl _ _⟩
 ·have hv:elemF ins i k=0:=by
   unfold elemF
   have e:ins[i]? = none:=List.getElem?_eq_none (Nat.le_of_not_lt hi)
   rw [List.getD_eq_getElem?_getD,List.getD_eq_getElem?_getD,e];rfl
  have HV:=hide hv
  have j1:¬ (i:Int)<0:=by omega
  have j2:(i:Int) ≥ (ins.length:Int):=by omega
  clear hv hc
  go_enter Tryz.func115,Tryz.ntmps115
  go_wp2
  go_ret
  exact ⟨by rw [HV.out];rfl,Below.refl _ _⟩
structure RTabB (w0 w:World) (tb q g cap:Nat) (ts:List Tk) (L:List Dl) (vE vA vI vQ vX:Value) (ins:List (List Int)) (aR:Option Addr) (gr rc N:Nat) (R:Nat→Nat) (F:Nat→Nat→Int) (now:Nat) (vD:Value):Prop where
 bel:Below w0.heap.size w0 w
 prog:RProg w0 q g cap ts L vE vA vI vQ
 lists:LsAt w0 vX ins
 tb0:w0.heap.size≤tb
 lt:tb<w.heap.size
 blk:w.heap[tb]? = some (.cells #[.pointer (some ⟨q,0,none⟩),vX,.slice aR (eqL L).length rc,.int .i64 (now:Int),vD] 112)
 aR:0<(eqL L).length→aR=some ⟨gr,0,none⟩
 mat:MatI w gr (eqL L).length N R F
 gr0:0<(eqL L).length→w0.heap.size≤gr
 R0:∀ i,i<(eqL L).length→w0.heap.size≤R i
 ne1:0<(eqL L).length→gr≠tb
 ne2:∀ i,i<(eqL L).length→R i≠tb
structure RTab (w0 w:World) (tb q g cap:Nat) (ts:List Tk) (L:List Dl) (vE vA vI vQ vX:Value) (ins:List (List Int)) (aR:Option Addr) (gr rc N:Nat) (R:Nat→Nat) (F:Nat→Nat→Int) (now gd:Nat) (D:Nat→Bool):Prop
  extends RTabB w0 w tb q g cap ts L vE vA vI vQ vX ins aR gr rc N R F now (.slice (some ⟨gd,0,none⟩) (eqL L).length (eqL L).length) where
 done:w.rowIs gd 4 (eqL L).length (fun i=>.bool (D i))
 gd0:w0.heap.size≤gd
 ne3:gd≠tb
 ne4:0<(eqL L).length→gd≠gr
 ne5:∀ i,i<(eqL L).length→R i≠gd
section
variable {w0 w w':World} {tb q g cap:Nat} {ts:List Tk} {L:List Dl} {vE vA vI vQ vX:Value} {ins:List (List Int)} {aR:Option Addr} {gr rc N:Nat} {R:Nat→Nat} {F:Nat→Nat→Int} {now gd:Nat} {D:Nat→Bool} {vD:Value}
theorem RTabB.c0 (h:RTabB w0 w tb q g cap ts L vE vA vI vQ vX ins aR gr rc N R F now vD):w.cell? ⟨tb,0,none⟩=some (.pointer (some ⟨q,0,none⟩)):=by rw [cell_of_row w tb 0 _ _ _ h.blk];rfl
theorem RTabB.c1 (h:RTabB w0 w tb q g cap ts L vE vA vI vQ vX ins aR gr rc N R F now vD):w.cell? ⟨tb,1,none⟩=some vX:=by rw [cell_of_row w tb 1 _ _ _ h.blk];rfl
theorem RTabB.c2 (h:RTabB w0 w tb q g cap ts L vE vA vI vQ vX ins aR gr rc N R F now vD):w.cell? ⟨tb,2,none⟩=some (.slice aR (eqL L).length rc):=by rw [cell_of_row w tb 2 _ _ _ h.blk];rfl
theorem RTabB.c3 (h:RTabB w0 w tb q g cap ts L vE vA vI vQ vX ins aR gr rc N R F now vD):w.cell? ⟨tb,3,none⟩=some (.int .i64 (now:Int)):=by rw [cell_of_row w tb 3 _ _ _ h.blk];rfl
theorem RTabB.c4 (h:RTabB w0 w tb q g cap ts L vE vA vI vQ vX ins aR gr rc N R F now vD):w.cell? ⟨tb,4,none⟩=some vD:=by rw [cell_of_row w tb 4 _ _ _ h.blk];rfl
theorem RTabB.froz (h:RTabB w0 w tb q g cap ts L vE vA vI vQ vX ins aR gr rc N R F now vD) (k:Nat):w.frozen? ⟨tb,k,none⟩=false:=by
 simp [World.frozen?,h.blk]
theorem RTabB.below (h:RTabB w0 w tb q g cap ts L vE vA vI vQ vX ins aR gr rc N R F now vD) (hb:Below w.heap.size w w'):RTabB w0 w' tb q g cap ts L vE vA vI vQ vX ins aR gr rc N R F now vD:=
 ⟨h.bel.trans (hb.mono h.bel.size),h.prog,h.lists,h.tb0,Nat.lt_of_lt_of_le h.lt hb.size,(hb.block tb h.lt).trans h.blk,h.aR,h.mat.below hb,h.gr0,h.R0,h.ne1,h.ne2⟩
theorem RTab.below (h:RTab w0 w tb q g cap ts L vE vA vI vQ vX ins aR gr rc N R F now gd D) (hb:Below w.heap.size w w'):RTab w0 w' tb q g cap ts L vE vA vI vQ vX ins aR gr rc N R F now gd D:=
 ⟨h.toRTabB.below hb,h.done.of_block (hb.block _ (World.rowIs.lt h.done)),h.gd0,h.ne3,h.ne4,h.ne5⟩
theorem RTabB.marks (h:RTabB w0 w tb q g cap ts L vE vA vI vQ vX ins aR gr rc N R F now vD) :
  RTab w0 ((w.alloc (.cells (madeCells #[.bool false] (eqL L).length) 4)).setCell ⟨tb,4,none⟩ (.slice (some ⟨w.heap.size,0,none⟩) (eqL L).length (eqL L).length)) tb q g cap ts L vE vA vI vQ vX ins aR gr rc N R F now w.heap.size (fun _=>false):=by
 have hs:=h.bel.size
 have hlt:=h.lt
 have hA:Below w.heap.size w (w.alloc (.cells (madeCells #[.bool false] (eqL L).length) 4)):=(Below.refl _ _).alloc (Nat.le_refl _) _
 have h1:=h.below hA
 have oth:∀ k,k≠tb→((w.alloc (.cells (madeCells #[.bool false] (eqL L).length) 4)).setCell ⟨tb,4,none⟩ (.slice (some ⟨w.heap.size,0,none⟩) (eqL L).length (eqL L).length)).heap[k]? = (w.alloc (.cells (madeCells #[.bool false] (eqL L).length) 4)).heap[k]?:=fun k hk=>heap_setCell_other _ ⟨tb,4,none⟩ k _ hk
 refine ⟨⟨h1.bel.setCell h.tb0 _,h.prog,h.lists,h.tb0,?_,?_,h.aR,?_,h.gr0,h.R0,h.ne1,h.ne2⟩,?_,hs,by omega,fun hp=>?_,fun i hi=>?_⟩
 ·simp;omega
 ·rw [heap_setCell_same _ tb 4 _ _ _ h1.blk];rfl
 ·rcases Nat.eq_zero_or_pos (eqL L).length with hz | hp
  ·exact ⟨fun i hi=>by omega,fun i hi=>by omega,fun i j hi=>by omega,fun i hi=>by omega⟩
  ·exact h1.mat.keep (oth gr (h.ne1 hp)) (fun i hi=>oth _ (h.ne2 i hi))
 ·exact ((World.rowIs_made w (.bool false) (eqL L).length 4).setOther (by show w.heap.size≠tb;omega) _)
 ·have:=h.mat.lt hp;omega
 ·have:=World.rowIs.lt (h.mat.rows i hi);omega
theorem RTab.put (h:RTab w0 w tb q g cap ts L vE vA vI vQ vX ins aR gr rc N R F now gd D) {a:Nat} (ha:a<(eqL L).length) (b:Nat) (v:Int) :
  RTab w0 (w.setCell ⟨R a,b,none⟩ (.int .i64 v)) tb q g cap ts L vE vA vI vQ vX ins aR gr rc N R (setR F a b v) now gd D:=
 ⟨⟨h.bel.setCell (h.R0 a ha) _,h.prog,h.lists,h.tb0,by simpa using h.lt,(heap_setCell_other w ⟨R a,b,none⟩ tb _ (Ne.symm (h.ne2 a ha))).trans h.blk,h.aR,h.mat.set ha b v,h.gr0,h.R0,h.ne1,h.ne2⟩,
  h.done.setOther (a:=⟨R a,b,none⟩) (Ne.symm (h.ne5 a ha)) _,h.gd0,h.ne3,h.ne4,h.ne5⟩
theorem RTab.mark (h:RTab w0 w tb q g cap ts L vE vA vI vQ vX ins aR gr rc N R F now gd D) (a:Nat) (v:Bool) :
  RTab w0 (w.setCell ⟨gd,a,none⟩ (.bool v)) tb q g cap ts L vE vA vI vQ vX ins aR gr rc N R F now gd (setD D a v):=by
 refine ⟨⟨h.bel.setCell h.gd0 _,h.prog,h.lists,h.tb0,by simpa using h.lt,(heap_setCell_other w ⟨gd,a,none⟩ tb _ (Ne.symm h.ne3)).trans h.blk,h.aR,?_,h.gr0,h.R0,h.ne1,h.ne2⟩,?_,h.gd0,h.ne3,h.ne4,h.ne5⟩
 ·rcases Nat.eq_zero_or_pos (eqL L).length with hz | hp
  ·exact ⟨fun i hi=>by omega,fun i hi=>by omega,fun i j hi=>by omega,fun i hi=>by omega⟩
  ·exact h.mat.keep (heap_setCell_other w ⟨gd,a,none⟩ gr _ (Ne.symm (h.ne4 hp))) (fun i hi=>heap_setCell_other w ⟨gd,a,none⟩ _ _ (h.ne5 i hi))
 ·refine (h.done.set a (.bool v)).congr (fun j _=>?_)
  unfold setD
  by_cases e:j=a
  ·subst e;simp
  ·simp [e]
theorem RTabB.tick (h:RTabB w0 w tb q g cap ts L vE vA vI vQ vX ins aR gr rc N R F now vD) :
  RTabB w0 (w.setCell ⟨tb,3,none⟩ (.int .i64 ((now+1:Nat):Int))) tb q g cap ts L vE vA vI vQ vX ins aR gr rc N R F (now+1) vD:=by
 refine ⟨h.bel.setCell h.tb0 _,h.prog,h.lists,h.tb0,by simpa using h.lt,?_,h.aR,?_,h.gr0,h.R0,h.ne1,h.ne2⟩
 ·rw [heap_setCell_same _ tb 3 _ _ _ h.blk];rfl
 ·rcases Nat.eq_zero_or_pos (eqL L).length with hz | hp
  ·exact ⟨fun i hi=>by omega,fun i hi=>by omega,fun i j hi=>by omega,fun i hi=>by omega⟩
  ·exact h.mat.keep (heap_setCell_other w ⟨tb,3,none⟩ gr _ (h.ne1 hp)) (fun i hi=>heap_setCell_other w ⟨tb,3,none⟩ _ _ (h.ne2 i hi))
end
theorem knR_in {ts:List Tk}{L:List Dl}{ins:List (List Int)}{F:Nat→Nat→Int}{D:Nat→Bool}{now n m:Nat}{nm:List UInt8} (hm:m<(inL L).length) (hb:∀ j,(hj:j<m)→nmIs ts nm ((inL L)[j]'(by omega))=false) (hh:nmIs ts nm (inL L)[m]=true) :
  knR ts L ins F D now nm n=(elemF ins m n,true):=by
 have e:inIx ts L nm=some m:=by
  unfold inIx
  rw [List.findIdx?_eq_some_iff_getElem]
  exact ⟨hm,hh,fun j hj=>by simpa using hb j hj⟩
 unfold knR
 rw [e]
theorem in_none {ts:List Tk}{L:List Dl}{nm:List UInt8} (hb:∀ j,(hj:j<(inL L).length)→nmIs ts nm (inL L)[j]=false):inIx ts L nm=none:=by
 unfold inIx
 rw [List.findIdx?_eq_none_iff]
 intro x hx
 obtain ⟨j,hj,rfl⟩:=List.getElem_of_mem hx
 exact hb j hj
theorem knR_eq {ts:List Tk}{L:List Dl}{ins:List (List Int)}{F:Nat→Nat→Int}{D:Nat→Bool}{now n m:Nat}{nm:List UInt8} (H:Right ts L) (hi:inIx ts L nm=none) (hm:m<(eqL L).length) (hh:nmIs ts nm (eqL L)[m]=true) (hk:(decide (n<now) || D m)=true) :
  knR ts L ins F D now nm n=(F m n,true):=by
 obtain ⟨j,hj⟩:∃ j,eqIx ts L nm=some j:=ix_some (List.getElem_mem hm) hh
 obtain ⟨x,hx,hn⟩:=eqIx_some hj
 have e:j=m:=H.same hx (List.getElem?_eq_getElem hm) (by rw [hn];unfold nmIs at hh;exact (beq_iff_eq.1 hh).symm)
 subst e
 unfold knR
 rw [hi,hj]
 simp only [hk]
 rfl
theorem knR_none {ts:List Tk}{L:List Dl}{ins:List (List Int)}{F:Nat→Nat→Int}{D:Nat→Bool}{now n:Nat}{nm:List UInt8} (hi:inIx ts L nm=none) (hb:∀ j,(hj:j<(eqL L).length)→nmIs ts nm (eqL L)[j]=true→(decide (n<now) || D j)=false) :
  knR ts L ins F D now nm n=(0,false):=by
 unfold knR
 rw [hi]
 cases he:eqIx ts L nm with
 | none=>rfl
 | some j=>
  obtain ⟨x,hx,hn⟩:=eqIx_some he
  obtain ⟨hj,rfl⟩:=List.getElem?_eq_some_iff.1 hx
  have:=hb j hj (by unfold nmIs;rw [hn];simp)
  simp only [this]
  rfl
end Go.Proofs.YtmndgoapkmhglabGreat
namespace Go.Proofs.YtmndgoapkmhglabGreat
open Go.ChangeShapes Go.WideShapes Go.RowKit Go.Deep
theorem Tryz.uAct:Tryz.prog.underlying 49=some (.struct (Tryz.prog.fieldsOf 49)):=by kernel_rfl
theorem Tryz.fAct:(Tryz.prog.fieldsOf 49).toList.map (fun f=>(f.type,f.offset))=[(3,0),(3,1),(3,2),(3,3)]:=by kernel_rfl
theorem Tryz.cAct:Tryz.prog.cellsOf 49=4:=by kernel_rfl
theorem Tryz.bAct:Tryz.prog.bytesOf 49=32:=by kernel_rfl
theorem open_acts {H:Type}{enc:TypeId × Value→H}{W:World}{fuel:Nat}{v:Value}{x:DataW H × List MemPlace} (h:DataW.trod enc Tryz.prog W 0 (fun _=>true) true fuel 23 [v]=some x) (hw:∀ n∈x.1.weights Tryz.prog 23,n≤reachBytes) :
  ∃ A C ops,v = .slice A ops.length C∧OpsAt W (.slice A ops.length C) ops:=by
 have hrb:reachBytes=140737488351232:=rfl
 rcases open_slice Tryz.underlying23 h with ⟨hcs,rfl⟩ | ⟨a,len,cap,m,n,D,Pl,hcs,_,hl,hm,hmm,rfl,hx⟩
 ·simp at hcs
  subst hcs
  exact ⟨none,0,[],rfl,none,0,rfl,by simp,fun hp=>by simp at hp⟩
 ·simp at hcs
  subst hcs
  simp only [if_true] at hmm
  subst hmm
  have hsz:m * 32≤reachBytes:=by
   refine hw _ ?_
   simp only [DataW.weights,Tryz.underlying23,List.mem_cons]
   refine .inl ?_
   rw [Tryz.bAct]
   simp
   omega
  obtain ⟨Z,hZ⟩:=choose_lt (α:=Int × Int × Int × Int) (n:=m) (p:=fun i z=>W.cell? (a.add (i * 4))=some (.int .i64 z.1)∧W.cell? ((a.add (i * 4)).add 1)=some (.int .i64 z.2.1)∧W.cell? ((a.add (i * 4)).add 2)=some (.int .i64 z.2.2.1)∧W.cell? ((a.add (i * 4)).add 3)=some (.int .i64 z.2.2.2)) (fun i hi=>by
   obtain ⟨cs',h1,h2⟩:=hx i hi
   rw [Tryz.cAct] at h1
   obtain ⟨_,_,hcl⟩:=World.cells?_some h1
   obtain ⟨v0,v1,v2,v3,y0,y1,y2,y3,k,rfl,_,g0,g1,g2,g3,_⟩:=trod_four Tryz.uAct Tryz.fAct Tryz.cAct Tryz.cellsInt Tryz.cellsInt Tryz.cellsInt Tryz.cellsInt h2
   obtain ⟨z0,e0,_⟩:=DataW.trod_int Tryz.underlying3 g0
   obtain ⟨z1,e1,_⟩:=DataW.trod_int Tryz.underlying3 g1
   obtain ⟨z2,e2,_⟩:=DataW.trod_int Tryz.underlying3 g2
   obtain ⟨z3,e3,_⟩:=DataW.trod_int Tryz.underlying3 g3
   simp only [List.cons.injEq,and_true] at e0 e1 e2 e3
   subst e0 e1 e2 e3
   have k0:=hcl 0 (by omega)
   rw [add_add,Nat.add_zero] at k0
   exact ⟨(z0,z1,z2,z3),k0,hcl 1 (by omega),hcl 2 (by omega),hcl 3 (by omega)⟩)
  have hln:((List.range len).map fun i=>(⟨(Z i).1,(Z i).2.1,(Z i).2.2.1,(Z i).2.2.2⟩:OpF)).length=len:=by simp
  refine ⟨some a,m,(List.range len).map fun i=>⟨(Z i).1,(Z i).2.1,(Z i).2.2.1,(Z i).2.2.2⟩,by rw [hln],some a,m,by rw [hln],by rw [hln];omega,fun hp=>?_⟩
  rw [hln] at hp
  obtain ⟨b,o,sp⟩:=a
  have hs:sp=none:=spot_none (by simpa using (hZ 0 (by omega)).1)
  subst hs
  refine ⟨b,o,rfl,?_,fun i hi=>?_⟩
  ·have:=World.block_lt_of_cell? _ _ (hZ 0 (by omega)).1
   simpa [Addr.add] using this
  ·rw [hln] at hi
   obtain ⟨k0,k1,k2,k3⟩:=hZ i (by omega)
   rw [plain_add] at k0 k1 k2 k3
   rw [plain_add] at k1 k2 k3
   simp only [List.getElem_map,List.getElem_range]
   exact ⟨k0,k1,k2,k3⟩
end Go.Proofs.YtmndgoapkmhglabGreat
