import Derived.Laws.StructEq
import Derived.Test.YtmndgoapkmhglabGreatM20OpC
import Derived.Test.YtmndgoapkmhglabGreatM32OpenT
import Derived.Test.YtmndgoapkmhglabGreatM41WkF
import Derived.Test.YtmndgoapkmhglabGreatM48AcB
namespace Go.Proofs.YtmndgoapkmhglabGreat
open Go.RowKit
attribute [local go_sem ↓] Go.wp_at_zero Go.wp_at_succ
theorem Tryz.infoAct:(Tryz.prog.info? 49).map (fun i=>(i.zero,i.size,i.bytes))=some (some (.agg #[.int .i64 0,.int .i64 0,.int .i64 0,.int .i64 0]),4,32):=by kernel_rfl
theorem act_neq (w:World) (k a b c:Int):(binOp .neq 49 (.agg #[.int .i64 k,.int .i64 a,.int .i64 b,.int .i64 c]) (.agg #[.int .i64 k,.int .i64 a,.int .i64 b,.int .i64 c])).run Tryz.prog w = .ok (.bool false) w:=by
 have hu:Tryz.prog.underlying 49=some (.struct (Tryz.prog.fieldsOf 49)):=by kernel_rfl
 have hp:Tryz.prog.stoodInHeld 49=false:=by kernel_rfl
 have hf : (Tryz.prog.fieldsOf 49).toList.map (fun f => (decide (f.name = "_"), f.type, f.offset)) = [(false, 3, 0), (false, 3, 1), (false, 3, 2), (false, 3, 3)] := by kernel_rfl
 rw [run_neq_struct,run_equalIn_struct w 9999 _ _ _ hu hp]
 clear hu hp
 generalize (Tryz.prog.fieldsOf 49).toList=fs at *
 obtain ⟨f0,r0,rfl,e0,hf⟩:=List.map_eq_cons_iff.1 hf
 obtain ⟨f1,r1,rfl,e1,hf⟩:=List.map_eq_cons_iff.1 hf
 obtain ⟨f2,r2,rfl,e2,hf⟩:=List.map_eq_cons_iff.1 hf
 obtain ⟨f3,r3,rfl,e3,hf⟩:=List.map_eq_cons_iff.1 hf
 have hr:=List.map_eq_nil_iff.1 hf
 subst hr
 simp only [Prod.mk.injEq,decide_eq_false_iff_not] at e0 e1 e2 e3
 obtain ⟨a0,b0,c0⟩:=e0
 obtain ⟨a1,b1,c1⟩:=e1
 obtain ⟨a2,b2,c2⟩:=e2
 obtain ⟨a3,b3,c3⟩:=e3
 simp [Op.eqFields,a0,a1,a2,a3,b0,b1,b2,b3,c0,c1,c2,c3,go_sem]
theorem act_eql (w:World) (k a b c:Int):(binOp .eql 49 (.agg #[.int .i64 k,.int .i64 a,.int .i64 b,.int .i64 c]) (.agg #[.int .i64 k,.int .i64 a,.int .i64 b,.int .i64 c])).run Tryz.prog w = .ok (.bool true) w:=by
 have hu:Tryz.prog.underlying 49=some (.struct (Tryz.prog.fieldsOf 49)):=by kernel_rfl
 have hp:Tryz.prog.stoodInHeld 49=false:=by kernel_rfl
 have hf : (Tryz.prog.fieldsOf 49).toList.map (fun f => (decide (f.name = "_"), f.type, f.offset)) = [(false, 3, 0), (false, 3, 1), (false, 3, 2), (false, 3, 3)] := by kernel_rfl
 rw [run_eql_struct,run_equalIn_struct w 9999 _ _ _ hu hp]
 clear hu hp
 generalize (Tryz.prog.fieldsOf 49).toList=fs at *
 obtain ⟨f0,r0,rfl,e0,hf⟩:=List.map_eq_cons_iff.1 hf
 obtain ⟨f1,r1,rfl,e1,hf⟩:=List.map_eq_cons_iff.1 hf
 obtain ⟨f2,r2,rfl,e2,hf⟩:=List.map_eq_cons_iff.1 hf
 obtain ⟨f3,r3,rfl,e3,hf⟩:=List.map_eq_cons_iff.1 hf
 have hr:=List.map_eq_nil_iff.1 hf
 subst hr
 simp only [Prod.mk.injEq,decide_eq_false_iff_not] at e0 e1 e2 e3
 obtain ⟨a0,b0,c0⟩:=e0
 obtain ⟨a1,b1,c1⟩:=e1
 obtain ⟨a2,b2,c2⟩:=e2
 obtain ⟨a3,b3,c3⟩:=e3
 simp [Op.eqFields,a0,a1,a2,a3,b0,b1,b2,b3,c0,c1,c2,c3,go_sem]
def ActsV (w:World) (B:Nat) (A:Option Addr) (sc:List OpF) (v:Value):Prop:=
 (A=none∧v = .slice none 0 0)∨(A≠none∧∃ G,B≤G∧G<w.heap.size∧v = .slice (some ⟨G,0,none⟩) sc.length (sc.length+1)∧(∀ j,j<sc.length * 4→w.cell? ⟨G,j,none⟩=(opCells sc)[j]?)∧
   w.cell? ⟨G,sc.length * 4,none⟩=some (.int .i64 (-77))∧w.cell? ⟨G,sc.length * 4+1,none⟩=some (.int .i64 0)∧w.cell? ⟨G,sc.length * 4+2,none⟩=some (.int .i64 0)∧w.cell? ⟨G,sc.length * 4+3,none⟩=some (.int .i64 0))
theorem ActsV.below {w w':World}{B:Nat}{A:Option Addr}{sc:List OpF}{v:Value} (h:ActsV w B A sc v) (hb:Below w.heap.size w w'):ActsV w' B A sc v:=by
 rcases h with h | ⟨h0,G,h1,h2,h3,h4,h5,h6,h7,h8⟩
 ·exact .inl h
 ·exact .inr ⟨h0,G,h1,Nat.lt_of_lt_of_le h2 hb.size,h3,fun j hj=>(hb.cell (p:=⟨G,j,none⟩) h2).trans (h4 j hj),(hb.cell (p:=⟨G,_,none⟩) h2).trans h5,(hb.cell (p:=⟨G,_,none⟩) h2).trans h6,(hb.cell (p:=⟨G,_,none⟩) h2).trans h7,(hb.cell (p:=⟨G,_,none⟩) h2).trans h8⟩
theorem ActsV.at {w:World}{B:Nat}{A:Option Addr}{sc:List OpF}{v:Value} (h:ActsV w B A sc v) (h0:A=none→sc=[]) (hl:sc.length≤4398046511104):OpsAt w v sc:=by
 rcases h with ⟨h1,rfl⟩ | ⟨_,G,_,h2,rfl,h4,_⟩
 ·rw [h0 h1];exact ⟨none,0,rfl,by simp,fun hp=>by simp at hp⟩
 ·refine ⟨_,_,rfl,hl,fun _=>⟨G,0,rfl,h2,fun i hi=>?_⟩⟩
  obtain ⟨g0,g1,g2,g3⟩:=opCells_get sc i hi
  rw [Nat.zero_add]
  exact ⟨(h4 _ (by omega)).trans g0,(h4 _ (by omega)).trans g1,(h4 _ (by omega)).trans g2,(h4 _ (by omega)).trans g3⟩
theorem copy_acts (w W:World) (N:Nat) (sc:List OpF) (A:Option Addr) (C:Nat) (z:Array Value) (hz:z.size=(sc.length+1) * 4) (hW:Below w.heap.size w W) (hN:W.heap.size=N) (h:OpsAt w (.slice A sc.length C) sc) :
  ∃ w1,(Builtin.copy_ #[23,23] 3 #[.slice (some ⟨N,0,none⟩) (sc.length+1) (sc.length+1),.slice A sc.length C]).run Tryz.prog (W.alloc (.cells z 49)) = .ok (goInt sc.length) w1∧w1=(W.alloc (.cells z 49)).setCells N 0 (opCells sc):=by
 subst hN
 have hsz:(Tryz.prog.info? 49).map (·.size)=some 4:=by have:=Tryz.infoAct;cases hq:Tryz.prog.info? 49 with | none=>rw [hq] at this;cases this | some i=>rw [hq] at this;simp at this;simp [this]
 have hmin:Nat.min sc.length (sc.length+1)=sc.length:=Nat.min_eq_left (by omega)
 rcases Nat.eq_zero_or_pos sc.length with h0 | hp
 ·refine ⟨W.alloc (.cells z 49),?_,?_⟩
  ·rw [run_copy_noth (P:=Tryz.prog) _ 23 23 3 49 _ _ _ _ _ _ 4 Tryz.underlying23 hsz (by rw [hmin];exact h0),h0]
   rfl
  ·rw [List.eq_nil_of_length_eq_zero h0];rfl
 ·obtain ⟨b,o,rfl,hb,hsrc⟩:=ops_src h hp
  have hn:(opCells sc).length=Nat.min sc.length (sc.length+1) * 4:=by rw [opCells_len,hmin]
  have hnew:(W.alloc (.cells z 49)).heap[W.heap.size]? = some (.cells z 49 (0,0)):=heap_alloc_new _ _
  have hr:=run_copy_wide (P:=Tryz.prog) (W.alloc (.cells z 49)) 23 23 3 49 W.heap.size (sc.length+1) (sc.length+1) ⟨b,o,none⟩ sc.length C 4 (opCells sc) Tryz.underlying23 hsz hn
   (fun j v hv=>by
     have h1:=hsrc j v hv
     rw [Addr.add_lit] at h1 ⊢
     rw [World.cell?_alloc_past _ _ _ (Nat.lt_of_lt_of_le hb hW.size)]
     exact (hW.cell (p:=⟨b,o+j,none⟩) hb).trans h1)
   (fun j hj=>by
     rw [opCells_len] at hj
     rw [cell_of_row _ _ _ _ _ _ hnew]
     simp [hz];omega)
   (fun j hj=>frozen_of_row _ _ _ _ _ hnew)
   (fun v hv=>by
     simp only [opCells,List.mem_flatMap,List.mem_cons,List.not_mem_nil,or_false] at hv
     obtain ⟨x,_,rfl | rfl | rfl | rfl⟩:=hv <;> rfl)
  rw [hmin] at hr
  exact ⟨_,hr,rfl⟩
set_option maxHeartbeats 4000000 in
set_option maxRecDepth 100000 in
theorem lacts_any (w:World) (A:Option Addr) (C:Nat) (sc:List OpF) (h:OpsAt w (.slice A sc.length C) sc) (h0:A=none→sc=[]) :
  Calls Tryz.prog 5 #[.slice A sc.length C] w fun e w'=>∃ v,e = .returned v∧ActsV w' w.heap.size A sc v∧Below w.heap.size w w':=by
 have hnil:=eql_nil (P:=Tryz.prog) 23 49 Tryz.underlying23
 have hol:sc.length≤4398046511104:=by obtain ⟨_,_,_,hl,_⟩:=h;exact hl
 cases A with
 | none=>
  have hx:=h0 rfl
  subst hx
  clear h h0
  go_enter Tryz.func5,Tryz.ntmps5
  go_wp2
  go_ret
  exact ⟨_,rfl,.inl ⟨rfl,rfl⟩,Below.refl _ _⟩
 | some a=>
  obtain ⟨i4,hi4,hz4,hs4,hb4⟩:=info_parts Tryz.infoAct
  have hmk:∀ w:World,(Instr.makeSlice 23 (.int .i64 ((sc.length:Int)+1)) (.int .i64 ((sc.length:Int)+1))).run Tryz.prog w = .ok (.slice (some ⟨w.heap.size,0,none⟩) (sc.length+1) (sc.length+1)) (w.alloc (.cells (madeCells #[.int .i64 0,.int .i64 0,.int .i64 0,.int .i64 0] ((sc.length+1) * 4)) 49)):=fun w=>by
   have:=run_make (P:=Tryz.prog) w 23 49 i4 _ Tryz.underlying23 hi4 hz4 .i64 .i64 ((sc.length+1:Nat):Int) ((sc.length+1:Nat):Int) (by omega) (by omega) (by rw [hb4];omega) (by omega)
   rw [hs4] at this
   simpa [Value.cells] using this
  have hwl:IntKind.i64.wrap ((sc.length:Int)+1)=(sc.length:Int)+1:=by rw [IntKind.wrap_i64];omega
  obtain ⟨w1,hcp,hw1⟩:=copy_acts w w w.heap.size sc (some a) C (madeCells #[.int .i64 0,.int .i64 0,.int .i64 0,.int .i64 0] ((sc.length+1) * 4)) (size_madeCells _ _) (Below.refl _ _) rfl h
  have hrow:∃ f,(w.alloc (.cells (madeCells #[.int .i64 0,.int .i64 0,.int .i64 0,.int .i64 0] ((sc.length+1) * 4)) 49)).rowIs w.heap.size 49 ((sc.length+1) * 4) f:=by
   refine ⟨fun i=>((madeCells #[.int .i64 0,.int .i64 0,.int .i64 0,.int .i64 0] ((sc.length+1) * 4))[i]?).getD (.int .i64 0),?_⟩
   have:=World.rowIs_alloc w (madeCells #[.int .i64 0,.int .i64 0,.int .i64 0,.int .i64 0] ((sc.length+1) * 4)) 49 (fun i=>((madeCells #[.int .i64 0,.int .i64 0,.int .i64 0,.int .i64 0] ((sc.length+1) * 4))[i]?).getD (.int .i64 0)) (fun i hi=>by simp [hi])
   rw [size_madeCells] at this
   exact this
  have hrow1:∃ f,w1.rowIs w.heap.size 49 ((sc.length+1) * 4) f:=by
   rw [hw1]
   have key:∀ (cs:List Value) (k:Nat) (W:World),(∃ f,W.rowIs w.heap.size 49 ((sc.length+1) * 4) f)→∃ f,(W.setCells w.heap.size k cs).rowIs w.heap.size 49 ((sc.length+1) * 4) f:=by
    intro cs
    induction cs with
    | nil=>intro k W hW;exact hW
    | cons c r ih=>intro k W hW;obtain ⟨f,hf⟩:=hW;exact ih _ _ ⟨_,hf.set k c⟩
   exact key _ _ _ hrow
  have hcells:∀ j,j<sc.length * 4→w1.cell? ⟨w.heap.size,j,none⟩=(opCells sc)[j]?:=fun j hj=>by
   rw [hw1]
   have hin:=World.cell?_setCells_in w.heap.size (opCells sc) 0 (w.alloc (.cells (madeCells #[.int .i64 0,.int .i64 0,.int .i64 0,.int .i64 0] ((sc.length+1) * 4)) 49)) (fun j hj=>by
    rw [opCells_len] at hj
    obtain ⟨f,hf⟩:=hrow
    rw [Nat.zero_add,hf.cell (by omega)];rfl) j (by rw [opCells_len];exact hj)
   rw [Nat.zero_add] at hin
   rw [hin,List.getElem?_eq_getElem (by rw [opCells_len];exact hj)]
  have hbel1:Below w.heap.size w w1:=by rw [hw1];exact below_setCells ((Below.refl _ _).alloc (Nat.le_refl _) _) (Nat.le_refl _) _ _
  obtain ⟨f,hf⟩:=hrow1
  have y0:=hf.cell (i:=sc.length * 4) (by omega)
  have y1:=hf.cell (i:=sc.length * 4+1) (by omega)
  have y2:=hf.cell (i:=sc.length * 4+2) (by omega)
  have y3:=hf.cell (i:=sc.length * 4+3) (by omega)
  have f0:=hf.frozen (sc.length * 4)
  have f1:=hf.frozen (sc.length * 4+1)
  have f2:=hf.frozen (sc.length * 4+2)
  have f3:=hf.frozen (sc.length * 4+3)
  have HF:=hide hf
  have HCL:=hide hcells
  have HB1:=hide hbel1
  have j1:(0:Int)≤(sc.length:Int):=by omega
  have j2:(sc.length:Int)<(sc.length:Int)+1:=by omega
  have j3:(sc.length:Int)≤(sc.length:Int)+1:=by omega
  clear hw1 hrow hcells hbel1 hf h h0 hi4 hz4 hs4 hb4
  go_enter Tryz.func5,Tryz.ntmps5
  go_wp2
  go_ret
  have hf4:=((((HF.out.set (sc.length * 4) (.int .i64 (-77))).set (sc.length * 4+1) (.int .i64 0)).set (sc.length * 4+2) (.int .i64 0)).set (sc.length * 4+3) (.int .i64 0))
  refine ⟨_,rfl,.inr ⟨by simp,w.heap.size,Nat.le_refl _,hf4.lt,rfl,fun j hj=>?_,?_,?_,?_,?_⟩,?_⟩
  ·rw [hf4.cell (by omega),← HCL.out j hj,HF.out.cell (by omega)]
   rw [if_neg (by omega),if_neg (by omega),if_neg (by omega),if_neg (by omega)]
  ·rw [hf4.cell (by omega)];simp
  ·rw [hf4.cell (by omega)];simp
  ·rw [hf4.cell (by omega)];simp
  ·rw [hf4.cell (by omega)];simp
  ·exact (((HB1.out.setCell (Nat.le_refl _) _).setCell (Nat.le_refl _) _).setCell (Nat.le_refl _) _).setCell (Nat.le_refl _) _
set_option maxHeartbeats 4000000 in
set_option maxRecDepth 100000 in
theorem lleft_any (w:World) (B:Nat) (A:Option Addr) (C:Nat) (sc:List OpF) (h:OpsAt w (.slice A sc.length C) sc) (h0:A=none→sc=[]) (v:Value) (hv:ActsV w B A sc v) :
  Calls Tryz.prog 12 #[v,.slice A sc.length C] w fun e w'=>e = .returned (.bool true)∧Below w.heap.size w w':=by
 have hnil:=eql_nil (P:=Tryz.prog) 23 49 Tryz.underlying23
 have hol:sc.length≤4398046511104:=by obtain ⟨_,_,_,hl,_⟩:=h;exact hl
 rcases hv with ⟨rfl,rfl⟩ | ⟨hA,G,hG1,hG2,rfl,hG4,g0,g1,g2,g3⟩
 ·have hx:=h0 rfl
  subst hx
  clear h h0
  go_enter Tryz.func12,Tryz.ntmps12
  go_wp2
  go_ret
  exact ⟨rfl,Below.refl _ _⟩
 ·obtain ⟨A',C',he,_,hc⟩:=h
  simp only [Value.slice.injEq,true_and] at he
  obtain ⟨rfl,rfl⟩:=he
  have hwl:IntKind.i64.wrap ((sc.length:Int)+1)=(sc.length:Int)+1:=by rw [IntKind.wrap_i64];omega
  have j1:(0:Int)≤(sc.length:Int)+1:=by omega
  have HC:=hide hc
  have HG4:=hide hG4
  have heq:=act_eql
  have hneq:=act_neq
  have j5:(0:Int)≤(sc.length:Int):=by omega
  have j6:(sc.length:Int)<(sc.length:Int)+1:=by omega
  clear hc hG4 h0 hA
  go_enter Tryz.func12,Tryz.ntmps12
  go_wp2
  go_loopw [6] (fun vi wr=>∃ i:Nat,i≤sc.length∧vi = .int .i64 i∧Below w.heap.size w wr) (fun vi _=>sc.length - (intOf vi).toNat)
  case atStart=>exact ⟨0,Nat.zero_le _,rfl,Below.refl _ _⟩
  case round=>
   obtain ⟨i,hi,rfl,hbr⟩:=hrel
   have HBR:=hide hbr
   by_cases hil:i<sc.length
   ·obtain ⟨b,o,rfl,hb,hr⟩:=HC.out (by omega)
    obtain ⟨x0,x1,x2,x3⟩:=act_cells hr hbr hb hil
    obtain ⟨q0,q1,q2,q3⟩:=opCells_get sc i hil
    rw [actF_get hil] at q0 q1 q2 q3
    have y0:=(hbr.cell (p:=⟨G,i * 4,none⟩) hG2).trans ((HG4.out _ (by omega)).trans q0)
    have y1:=(hbr.cell (p:=⟨G,i * 4+1,none⟩) hG2).trans ((HG4.out _ (by omega)).trans q1)
    have y2:=(hbr.cell (p:=⟨G,i * 4+2,none⟩) hG2).trans ((HG4.out _ (by omega)).trans q2)
    have y3:=(hbr.cell (p:=⟨G,i * 4+3,none⟩) hG2).trans ((HG4.out _ (by omega)).trans q3)
    have k1:(0:Int)≤(i:Int):=by omega
    have k2:(i:Int)<(sc.length:Int):=by omega
    have k3:(i:Int)<(sc.length:Int)+1:=by omega
    clear hr hbr q0 q1 q2 q3 g0 g1 g2 g3
    generalize (actF sc i).k=a0 at *
    generalize (actF sc i).a=a1 at *
    generalize (actF sc i).b=a2 at *
    generalize (actF sc i).c=a3 at *
    go_wp2_with fail
    go_quiet (fail)
    go_wp2
    go_roundw
    case rel=>exact ⟨i+1,by omega,by go_num,by first | exact HBR.out | exact below_drewN HBR.out _⟩
    case measure=>simp [intOf];omega
   ·have ei:i=sc.length:=by omega
    subst ei
    have y0:=(hbr.cell (p:=⟨G,sc.length * 4,none⟩) hG2).trans g0
    have y1:=(hbr.cell (p:=⟨G,sc.length * 4+1,none⟩) hG2).trans g1
    have y2:=(hbr.cell (p:=⟨G,sc.length * 4+2,none⟩) hG2).trans g2
    have y3:=(hbr.cell (p:=⟨G,sc.length * 4+3,none⟩) hG2).trans g3
    clear hbr g0 g1 g2 g3
    go_wp2
    go_ret
    exact ⟨rfl,HBR.out⟩
end Go.Proofs.YtmndgoapkmhglabGreat
