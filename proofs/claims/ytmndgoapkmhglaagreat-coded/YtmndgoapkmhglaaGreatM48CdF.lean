import Derived.Test.YtmndgoapkmhglaaGreatM35SvC
import Derived.Test.YtmndgoapkmhglaaGreatM46HeldT
namespace Go.Proofs.YtmndgoapkmhglaaGreat
open Go.RowKit
attribute [local go_sem ↓] Go.wp_at_zero Go.wp_at_succ
set_option maxHeartbeats 4000000 in
set_option maxRecDepth 100000 in
theorem ltwin_any (w:World) (c:CdF) (vO vC vN vU uO uC uN uU:Value) (hc:CodeAt w vO vC vN vU c) (h:CodeAt w uO uC uN uU c) :
  Calls Tryz.prog 19 #[.agg #[vO,vC,vN,vU],.agg #[uO,uC,uN,uU]] w fun e w'=>e = .returned (.bool true)∧Below w.heap.size w w':=by
 have HC1:=hide hc
 have HC2:=hide h
 obtain ⟨aC,kC,rfl,_,_⟩:=hc.cells
 obtain ⟨aN,kN,rfl,_,_⟩:=hc.next
 obtain ⟨aU,kU,rfl,_,_⟩:=hc.out
 obtain ⟨Ac,Cc,rfl,_,_⟩:=h.cells
 obtain ⟨An,Cn,rfl,_,_⟩:=h.next
 obtain ⟨Au,Cu,rfl,_,_⟩:=h.out
 obtain ⟨Ao,Co,rfl,hol,hoc⟩:=op_cells h.ops
 obtain ⟨Ar,Cr,rfl,-,hrc⟩:=op_cells hc.ops
 have H1:Hid (∀ W,Below w.heap.size w W→Calls Tryz.prog 9 #[.slice aC c.cells.length kC,.slice Ac c.cells.length Cc] W fun e w'=>e = .returned (.bool true)∧Below W.heap.size W w'):=hide fun W hW=>by
  have:=lsame_any W _ _ c.cells c.cells (HC1.out.below hW).cells (HC2.out.below hW).cells
  rw [show (c.cells == c.cells)=true by simp] at this
  exact this
 have H2:Hid (∀ W,Below w.heap.size w W→Calls Tryz.prog 9 #[.slice aN c.next.length kN,.slice An c.next.length Cn] W fun e w'=>e = .returned (.bool true)∧Below W.heap.size W w'):=hide fun W hW=>by
  have:=lsame_any W _ _ c.next c.next (HC1.out.below hW).next (HC2.out.below hW).next
  rw [show (c.next == c.next)=true by simp] at this
  exact this
 have H3:Hid (∀ W,Below w.heap.size w W→Calls Tryz.prog 9 #[.slice aU c.out.length kU,.slice Au c.out.length Cu] W fun e w'=>e = .returned (.bool true)∧Below W.heap.size W w'):=hide fun W hW=>by
  have:=lsame_any W _ _ c.out c.out (HC1.out.below hW).out (HC2.out.below hW).out
  rw [show (c.out == c.out)=true by simp] at this
  exact this
 have HA:=hide hoc
 have HR:=hide hrc
 have q1:((c.ops.length:Int) != (c.ops.length:Int))=false:=by simp
 obtain ⟨bx,hbx⟩:∃ bx,bx=(w.alloc (.cells #[.slice Ar c.ops.length Cr,.slice aC c.cells.length kC,.slice aN c.next.length kN,.slice aU c.out.length kU] 43)).alloc (.cells #[.slice Ao c.ops.length Co,.slice Ac c.cells.length Cc,.slice An c.next.length Cn,.slice Au c.out.length Cu] 43):=⟨_,rfl⟩
 have hsx:bx.heap.size=w.heap.size+1+1:=by rw [hbx];simp
 have HBX:Hid (Below w.heap.size w bx):=hide (by rw [hbx];exact ((Below.refl _ _).alloc (Nat.le_refl _) _).alloc (by simp) _)
 have hx0:bx.heap[w.heap.size]? = some (.cells #[.slice Ar c.ops.length Cr,.slice aC c.cells.length kC,.slice aN c.next.length kN,.slice aU c.out.length kU] 43 (0,0)):=by rw [hbx];exact heap_alloc2_old _ _ _
 have hx1:bx.heap[w.heap.size+1]? = some (.cells #[.slice Ao c.ops.length Co,.slice Ac c.cells.length Cc,.slice An c.next.length Cn,.slice Au c.out.length Cu] 43 (0,0)):=by rw [hbx];exact heap_alloc2_new _ _ _
 have HC:Hid (∀ W:World,Below bx.heap.size bx W→(W.cell? ⟨w.heap.size,0,none⟩=some (.slice Ar c.ops.length Cr)∧W.cell? ⟨w.heap.size,1,none⟩=some (.slice aC c.cells.length kC)∧W.cell? ⟨w.heap.size,2,none⟩=some (.slice aN c.next.length kN)∧W.cell? ⟨w.heap.size,3,none⟩=some (.slice aU c.out.length kU))∧(W.cell? ⟨w.heap.size+1,0,none⟩=some (.slice Ao c.ops.length Co)∧W.cell? ⟨w.heap.size+1,1,none⟩=some (.slice Ac c.cells.length Cc)∧W.cell? ⟨w.heap.size+1,2,none⟩=some (.slice An c.next.length Cn)∧W.cell? ⟨w.heap.size+1,3,none⟩=some (.slice Au c.out.length Cu))):=hide fun W hW=>by
  have hy0:W.heap[w.heap.size]? = _:=(hW.block _ (by omega)).trans hx0
  have hy1:W.heap[w.heap.size+1]? = _:=(hW.block _ (by omega)).trans hx1
  refine ⟨⟨?_,?_,?_,?_⟩,?_,?_,?_,?_⟩ <;> first | (rw [cell_of_row _ _ _ _ _ _ hy0];rfl) | (rw [cell_of_row _ _ _ _ _ _ hy1];rfl)
 have HX:=hide hbx
 clear hoc hrc h hc hx0 hx1 hsx hbx
 go_enter Tryz.func19,Tryz.ntmps19
 go_wp2_with fail
 rw [← HX.out]
 clear HX
 go_loopw [5] (fun vi wr=>∃ m:Nat,m≤c.ops.length∧vi = .int .i64 m∧Below bx.heap.size bx wr) (fun vi _=>c.ops.length - (intOf vi).toNat)
 case atStart=>exact ⟨0,Nat.zero_le _,rfl,Below.refl _ _⟩
 case round=>
  obtain ⟨m,hm,rfl,hbr⟩:=hrel
  obtain ⟨⟨c0,c1,c2,c3⟩,d0,d1,d2,d3⟩:=HC.out _ hbr
  have HBR:=hide hbr
  have hbw:Below w.heap.size w _:=HBX.out.trans (hbr.mono HBX.out.size)
  by_cases hml:m<c.ops.length
  ·obtain ⟨b,o,rfl,hb,hr⟩:=HA.out (by omega)
   obtain ⟨b',o',rfl,hb',hr'⟩:=HR.out (by omega)
   obtain ⟨x0,x1,x2,x3⟩:=hr m hml
   obtain ⟨z0,z1,z2,z3⟩:=hr' m hml
   rw [← hbw.cell (p:=⟨b,o+m * 4,none⟩) hb] at x0
   rw [← hbw.cell (p:=⟨b,o+m * 4+1,none⟩) hb] at x1
   rw [← hbw.cell (p:=⟨b,o+m * 4+2,none⟩) hb] at x2
   rw [← hbw.cell (p:=⟨b,o+m * 4+3,none⟩) hb] at x3
   rw [← hbw.cell (p:=⟨b',o'+m * 4,none⟩) hb'] at z0
   rw [← hbw.cell (p:=⟨b',o'+m * 4+1,none⟩) hb'] at z1
   rw [← hbw.cell (p:=⟨b',o'+m * 4+2,none⟩) hb'] at z2
   rw [← hbw.cell (p:=⟨b',o'+m * 4+3,none⟩) hb'] at z3
   have j3:(0:Int)≤(m:Int):=by omega
   have j4:(m:Int)<(c.ops.length:Int):=by omega
   have hs:=fun W=>op_same W c.ops[m].k c.ops[m].a c.ops[m].b c.ops[m].c
   generalize c.ops[m].k=ok at *
   generalize c.ops[m].a=oa at *
   generalize c.ops[m].b=ob at *
   generalize c.ops[m].c=oc at *
   clear hr hr' hbr hbw hb hb'
   go_wp2_with fail
   go_quiet (fail)
   go_wp2
   go_roundw
   case rel=>exact ⟨m+1,by omega,by go_num,by first | exact HBR.out | exact below_drewN HBR.out _⟩
   case measure=>simp [intOf];omega
  ·have em:m=c.ops.length:=by omega
   subst em
   have z1:¬ (c.ops.length:Int)<(c.ops.length:Int):=by omega
   have HBW:=hide hbw
   clear hbr hbw
   go_wp2_with fail
   refine (H1.out _ HBW.out).mono ?_
   rintro e w1 ⟨rfl,hb1⟩
   clear c0 c1 c2 c3 d0 d1 d2 d3
   have HB1:Hid (Below bx.heap.size bx w1):=hide (HBR.out.trans (hb1.mono HBR.out.size))
   obtain ⟨⟨c0,c1,c2,c3⟩,d0,d1,d2,d3⟩:=HC.out _ HB1.out
   clear hb1
   go_wp2_with fail
   refine (H2.out _ (HBX.out.trans (HB1.out.mono HBX.out.size))).mono ?_
   rintro e w2 ⟨rfl,hb2⟩
   clear c0 c1 c2 c3 d0 d1 d2 d3
   have HB2:Hid (Below bx.heap.size bx w2):=hide (HB1.out.trans (hb2.mono HB1.out.size))
   obtain ⟨⟨c0,c1,c2,c3⟩,d0,d1,d2,d3⟩:=HC.out _ HB2.out
   clear hb2
   go_wp2_with fail
   refine (H3.out _ (HBX.out.trans (HB2.out.mono HBX.out.size))).mono ?_
   rintro e w3 ⟨rfl,hb3⟩
   clear c0 c1 c2 c3 d0 d1 d2 d3
   have HB3:Hid (Below w.heap.size w w3):=hide (HBX.out.trans ((HB2.out.trans (hb3.mono HB2.out.size)).mono HBX.out.size))
   clear hb3
   go_wp2
   go_ret
   exact ⟨rfl,HB3.out⟩
end Go.Proofs.YtmndgoapkmhglaaGreat
