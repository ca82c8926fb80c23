import Derived.Laws.CopyOwn
import Derived.Laws.Cover3
import Derived.Laws.StructEq
import Derived.Test.YtecegaflhdgfaaaGreatM11ParA
import Derived.Test.YtecegaflhdgfaaaGreatM25LawC
namespace Go.Proofs.YtecegaflhdgfaaaGreat
open Go.RowKit
attribute [local go_sem ↓] Go.wp_at_zero Go.wp_at_succ
def RoomV (w:World) (B:Nat) (A:Option Addr) (xs:List Int) (v:Value):Prop:=
 (A=none∧v = .slice none 0 0)∨(A≠none∧∃ G,B≤G∧v = .slice (some ⟨G,0,none⟩) xs.length (xs.length+1)∧w.heap[G]? = some (.cells (iCells (xs ++ [-77])).toArray 3))
theorem RoomV.below {w w':World}{B:Nat}{A:Option Addr}{xs:List Int}{v:Value} (h:RoomV w B A xs v) (hb:Below w.heap.size w w'):RoomV w' B A xs v:=by
 rcases h with h | ⟨h1,G,h2,h3,h4⟩
 ·exact .inl h
 ·exact .inr ⟨h1,G,h2,h3,(hb.block G (Array.getElem?_eq_some_iff.1 h4).1).trans h4⟩
theorem RoomV.row {w:World}{B:Nat}{A:Option Addr}{xs:List Int}{v:Value} (h:RoomV w B A xs v) (h0:A=none→xs=[]) (hm:xs.length≤35184372088832):RowAt w v xs:=by
 rcases h with ⟨h1,rfl⟩ | ⟨h1,G,h2,rfl,h4⟩
 ·rw [h0 h1];exact ⟨none,0,rfl,by simp,fun hp=>by simp at hp⟩
 ·refine ⟨_,_,rfl,hm,fun hp=>⟨G,0,rfl,(Array.getElem?_eq_some_iff.1 h4).1,fun c hc=>?_⟩⟩
  rw [cell_of_row w G _ _ _ _ h4]
  simp [iCells,List.getElem?_append,hc]
theorem eql_nil {P:Program} (t e:TypeId) (h:P.underlying t=some (.slice e)) (w:World) (a:Option Addr) (l c:Nat):(binOp .eql t (.slice a l c) (.slice none 0 0)).run P w = .ok (.bool a.isNone) w:=by
 simp only [binOp]
 simp [run_equal_slice_nil w t e a l c h]
theorem made_rep (z:Value) (n:Nat):madeCells #[z] n=(List.replicate n z).toArray:=by
 apply Array.ext
 ·simp [madeCells]
 ·intro i h1 h2
  simp [madeCells,Nat.mod_one]
set_option maxHeartbeats 2000000 in
set_option maxRecDepth 100000 in
theorem lroomy_any (w:World) (A:Option Addr) (C:Nat) (xs:List Int) (h:RowAt w (.slice A xs.length C) xs) (h0:A=none→xs=[]) (hn:xs.length≤17592186044416) :
  Calls Tryz.prog 20 #[.slice A xs.length C] w fun e w'=>∃ v,e = .returned v∧RoomV w' w.heap.size A xs v∧Below w.heap.size w w':=by
 obtain ⟨A',C',he,hm,hc⟩:=h
 simp only [Value.slice.injEq,true_and] at he
 obtain ⟨rfl,rfl⟩:=he
 have hnil:=eql_nil (P:=Tryz.prog) 34 3 Tryz.underlying34
 cases A with
 | none=>
  have hx:=h0 rfl
  subst hx
  clear hc h0
  go_enter Tryz.func20,Tryz.ntmps20
  go_wp2
  go_ret
  exact ⟨_,rfl,.inl ⟨rfl,rfl⟩,Below.refl _ _⟩
 | some a=>
  have hm2:=run_make_row' (P:=Tryz.prog) 34 3 (.int .i64 0) 8 Tryz.underlying34 Tryz.infoInt rfl .i64 .i64 (xs.length+1) (by omega) (by omega)
  simp only [show ((xs.length+1:Nat):Int)=(xs.length:Int)+1 from by omega] at hm2
  have hsz:(Tryz.prog.info? 3).map (·.size)=some 1:=by have:=Tryz.infoInt;cases hq:Tryz.prog.info? 3 with | none=>rw [hq] at this;cases this | some i=>rw [hq] at this;simp at this;simp [this]
  obtain ⟨X,hX⟩:∃ X,X=iCells xs:=⟨_,rfl⟩
  have HX:=hide hX
  have hXl:X.length=xs.length:=by rw [hX];exact iCells_len xs
  have hpos:0<X.length→∃ ad,(some a:Option Addr)=some ad∧∀ o j v,X[j]? = some v→(w.alloc o).cell? (ad.add j)=some v:=fun hp=>by
   obtain ⟨b,o,h1,h2,h3⟩:=hc (by omega)
   refine ⟨⟨b,o,none⟩,h1,fun oo j v hv=>?_⟩
   rw [hX,iCells_get] at hv
   obtain ⟨x,hx,rfl⟩:=Option.map_eq_some_iff.1 hv
   obtain ⟨hj,rfl⟩:=List.getElem?_eq_some_iff.1 hx
   rw [Addr.add_lit,World.cell?_alloc_past _ _ _ h2]
   exact h3 j hj
  have hone:∀ v∈X,v.oneCell'=true:=fun v hv=>by
   rw [hX] at hv
   obtain ⟨x,_,rfl⟩:=List.mem_map.1 hv
   rfl
  obtain ⟨Z,hZ⟩:∃ Z,Z=List.replicate (xs.length+1) (Value.int .i64 0):=⟨_,rfl⟩
  have hZb:(w.alloc (.cells (madeCells #[.int .i64 0] (xs.length+1)) 3)).heap[w.heap.size]? = some (.cells Z.toArray 3 (0,0)):=by
   rw [heap_alloc_new,hZ,made_rep]
  have hZl:Z.length=xs.length+1:=by rw [hZ];simp
  have HZ:=hide hZ
  have HB0:=hide ((Below.refl w.heap.size w).alloc (Nat.le_refl _) (.cells (madeCells #[.int .i64 0] (xs.length+1)) 3))
  obtain ⟨w1,hcp,hg1,hb1⟩:∃ w1,(Builtin.copy_ #[34,34] 3 #[.slice (some ⟨w.heap.size,0,none⟩) (xs.length+1) (xs.length+1),.slice (some a) xs.length C]).run Tryz.prog (w.alloc (.cells (madeCells #[.int .i64 0] (xs.length+1)) 3)) = .ok (goInt xs.length) w1∧
    w1.heap[w.heap.size]? = some (.cells (iCells (xs ++ [0])).toArray 3 (0,0))∧Below w.heap.size w w1:=by
   have hmin:X.length=Nat.min xs.length (xs.length+1):=by rw [hXl];exact (Nat.min_eq_left (by omega)).symm
   rcases Nat.eq_zero_or_pos xs.length with hz | hp
   ·refine ⟨w.alloc (.cells (madeCells #[.int .i64 0] (xs.length+1)) 3),?_,hZb.trans ?_,HB0.out⟩
    ·have:=run_copy_none (P:=Tryz.prog) (w.alloc (.cells (madeCells #[.int .i64 0] (xs.length+1)) 3)) 34 34 3 3 (some ⟨w.heap.size,0,none⟩) (some a) (xs.length+1) (xs.length+1) xs.length C Tryz.underlying34 hsz (by rw [← hmin,hXl];exact hz)
     rw [this];simp [hz]
    ·rw [hZ,hz,List.eq_nil_of_length_eq_zero hz];rfl
   ·obtain ⟨ad,had,hsrc⟩:=hpos (by omega)
    cases had
    have hr:=run_copy_row (P:=Tryz.prog) (w.alloc (.cells (madeCells #[.int .i64 0] (xs.length+1)) 3)) 34 34 3 3 w.heap.size 0 (xs.length+1) (xs.length+1) a xs.length C Z.toArray 3 X Tryz.underlying34 hsz hZb hmin (hsrc _) (by simp;omega) hone
    rw [hXl] at hr
    refine ⟨_,hr,?_,below_setRow HB0.out (Nat.le_refl _) _⟩
    rw [setRow_heap _ _ _ _ _ _ hZb]
    congr 2
    rw [hZ,hX]
    simp [iCells,List.replicate_succ']
  have HG1:=hide hg1
  have HB1:=hide hb1
  have k1:w1.cell? ⟨w.heap.size,xs.length,none⟩=some (.int .i64 0):=by
   rw [cell_of_row w1 _ _ _ _ _ hg1]
   simp [iCells]
  have k2:w1.frozen? ⟨w.heap.size,xs.length,none⟩=false:=frozen_of_row w1 _ _ _ _ hg1
  have k3:(xs.length:Int)<(xs.length:Int)+1:=by omega
  have k4:(0:Int)≤(xs.length:Int):=by omega
  have HFIN:Hid ((w1.setCell ⟨w.heap.size,xs.length,none⟩ (.int .i64 (-77))).heap[w.heap.size]? = some (.cells (iCells (xs ++ [-77])).toArray 3)):=hide (by
   rw [heap_setCell_same w1 _ _ _ _ _ hg1]
   congr 2
   simp [iCells])
  clear hc h0 hX hZ hpos hone hZb hsz hXl hZl hg1 hb1
  go_enter Tryz.func20,Tryz.ntmps20
  go_wp2
  go_ret
  exact ⟨_,rfl,.inr ⟨by simp,w.heap.size,Nat.le_refl _,rfl,HFIN.out⟩,HB1.out.setCell (Nat.le_refl _) _⟩
theorem opCells_len (l:List OpF):(opCells l).length=l.length * 4:=by
 induction l with
 | nil=>rfl
 | cons o r ih=>simp only [opCells,List.flatMap_cons,List.length_append,List.length_cons,List.length_nil] at *;omega
theorem run_copy_wide {P:Program} (w:World) (dT sT ty elem:TypeId) (g dLen dCap:Nat) (a:Addr) (sLen sCap size:Nat) (cs:List Value)
  (hu:P.underlying dT=some (.slice elem)) (hs:(P.info? elem).map (·.size)=some size) (hn:cs.length=Nat.min sLen dLen * size)
  (hsrc:∀ j v,cs[j]? = some v→w.cell? (a.add j)=some v) (hc:∀ j,j<cs.length→(w.cell? ⟨g,0+j,none⟩).isSome=true) (hf:∀ j,j<cs.length→w.frozen? ⟨g,0+j,none⟩=false) (h1:∀ v∈cs,v.oneCell'=true) :
  (Builtin.copy_ #[dT,sT] ty #[.slice (some ⟨g,0,none⟩) dLen dCap,.slice (some a) sLen sCap]).run P w = .ok (goInt (Nat.min sLen dLen)) (w.setCells g 0 cs):=by
 have hfc:=run_firstCells_some (P:=P) w size (Nat.min sLen dLen) a sLen sCap cs hn hsrc
 have hst:=run_storeCells_cells (P:=P) g 0 cs 0 w (by simpa using hc) (by simpa using hf) h1
 cases hq:P.info? elem with
 | none=>simp [hq] at hs
 | some i=>
  have hi:i.size=size:=by simpa [hq] using hs
  simp [Builtin.copy_,run_underlying hu,Builtin.lenOf,sizeOf,typeInfo,hq,hi,hfc,hst]
theorem run_copy_noth {P:Program} (w:World) (dT sT ty elem:TypeId) (d a:Option Addr) (dLen dCap sLen sCap size:Nat) (hu:P.underlying dT=some (.slice elem)) (hs:(P.info? elem).map (·.size)=some size) (hn:Nat.min sLen dLen=0) :
  (Builtin.copy_ #[dT,sT] ty #[.slice d dLen dCap,.slice a sLen sCap]).run P w = .ok (goInt 0) w:=by
 cases hq:P.info? elem with
 | none=>simp [hq] at hs
 | some i=>
  have hl:∀ (x:Addr),(loadCells x 0).run P w = .ok #[] w:=fun x=>by simpa using run_loadCells_list (P:=P) w x [] (by simp)
  cases d <;> cases a <;> simp [Builtin.copy_,run_underlying hu,Builtin.lenOf,Builtin.firstCells,sizeOf,typeInfo,hq,hn,storeCells,hl]
theorem Tryz.infoOp:(Tryz.prog.info? 79).map (fun i=>(i.zero,i.size,i.bytes))=some (some (.agg #[.int .i64 0,.int .i64 0,.int .i64 0,.int .i64 0]),4,32):=by kernel_rfl
theorem opCells_get (l:List OpF) (i:Nat) (hi:i<l.length):(opCells l)[i * 4]? = some (.int .i64 l[i].k)∧(opCells l)[i * 4+1]? = some (.int .i64 l[i].a)∧(opCells l)[i * 4+2]? = some (.int .i64 l[i].b)∧(opCells l)[i * 4+3]? = some (.int .i64 l[i].c):=by
 have e:=fun j hj=>flat_get (fun o:OpF=>[Value.int .i64 o.k,.int .i64 o.a,.int .i64 o.b,.int .i64 o.c]) 4 (fun _=>rfl) l i j hi hj
 exact ⟨e 0 (by omega),e 1 (by omega),e 2 (by omega),e 3 (by omega)⟩
theorem ops_src {w:World}{A:Option Addr}{C:Nat}{ops:List OpF} (h:OpsAt w (.slice A ops.length C) ops) (hp:0<ops.length):∃ b o,A=some ⟨b,o,none⟩∧b<w.heap.size∧∀ j v,(opCells ops)[j]? = some v→w.cell? ((⟨b,o,none⟩:Addr).add j)=some v:=by
 obtain ⟨A',C',he,_,hc⟩:=h
 simp only [Value.slice.injEq,true_and] at he
 obtain ⟨rfl,rfl⟩:=he
 obtain ⟨b,o,h1,h2,h3⟩:=hc hp
 refine ⟨b,o,h1,h2,fun j v hv=>?_⟩
 have hj:j<ops.length * 4:=by have:=(List.getElem?_eq_some_iff.1 hv).1;rwa [opCells_len] at this
 obtain ⟨i,r,hr,rfl⟩:∃ i r,r<4∧j=i * 4+r:=⟨j / 4,j % 4,by omega,by omega⟩
 obtain ⟨k0,k1,k2,k3⟩:=h3 i (by omega)
 obtain ⟨g0,g1,g2,g3⟩:=opCells_get ops i (by omega)
 rw [Addr.add_lit]
 have hcs:r=0∨r=1∨r=2∨r=3:=by omega
 rcases hcs with rfl | rfl | rfl | rfl
 ·rw [Nat.add_zero,g0] at hv;cases hv;rw [Nat.add_zero];exact k0
 ·rw [g1] at hv;cases hv;rw [← Nat.add_assoc];exact k1
 ·rw [g2] at hv;cases hv;rw [← Nat.add_assoc];exact k2
 ·rw [g3] at hv;cases hv;rw [← Nat.add_assoc];exact k3
def OpsCp (w:World) (B:Nat) (ops:List OpF) (v:Value):Prop:=∃ G,B≤G∧G<w.heap.size∧v = .slice (some ⟨G,0,none⟩) ops.length ops.length∧∀ j,j<ops.length * 4→w.cell? ⟨G,j,none⟩=(opCells ops)[j]?
theorem OpsCp.below {w w':World}{B:Nat}{ops:List OpF}{v:Value} (h:OpsCp w B ops v) (hb:Below w.heap.size w w'):OpsCp w' B ops v:=by
 obtain ⟨G,h1,h2,h3,h4⟩:=h
 exact ⟨G,h1,Nat.lt_of_lt_of_le h2 hb.size,h3,fun j hj=>(hb.cell (p:=⟨G,j,none⟩) h2).trans (h4 j hj)⟩
theorem OpsCp.at {w:World}{B:Nat}{ops:List OpF}{v:Value} (h:OpsCp w B ops v) (hl:ops.length≤4398046511104):OpsAt w v ops:=by
 obtain ⟨G,h1,h2,rfl,h4⟩:=h
 refine ⟨_,_,rfl,hl,fun hp=>⟨G,0,rfl,h2,fun i hi=>?_⟩⟩
 obtain ⟨g0,g1,g2,g3⟩:=opCells_get ops i hi
 simp only [Nat.zero_add]
 exact ⟨(h4 _ (by omega)).trans g0,(h4 _ (by omega)).trans g1,(h4 _ (by omega)).trans g2,(h4 _ (by omega)).trans g3⟩
structure ArgC (w:World) (Ao Ac An Au:Option Addr) (Co Cc Cn Cu:Nat) (c:CdF):Prop where
 ops:OpsAt w (.slice Ao c.ops.length Co) c.ops
 cells:RowAt w (.slice Ac c.cells.length Cc) c.cells∧(Ac=none→c.cells=[])∧c.cells.length≤17592186044416
 next:RowAt w (.slice An c.next.length Cn) c.next∧(An=none→c.next=[])∧c.next.length≤17592186044416
 out:RowAt w (.slice Au c.out.length Cu) c.out∧(Au=none→c.out=[])∧c.out.length≤17592186044416
structure CodeCp (w:World) (B:Nat) (Ac An Au:Option Addr) (c:CdF) (vO vC vN vU:Value):Prop where
 ops:OpsCp w B c.ops vO
 cells:RoomV w B Ac c.cells vC
 next:RoomV w B An c.next vN
 out:RoomV w B Au c.out vU
theorem CodeCp.below {w w':World}{B:Nat}{Ac An Au:Option Addr}{c:CdF}{vO vC vN vU:Value} (h:CodeCp w B Ac An Au c vO vC vN vU) (hb:Below w.heap.size w w'):CodeCp w' B Ac An Au c vO vC vN vU:=
 ⟨h.ops.below hb,h.cells.below hb,h.next.below hb,h.out.below hb⟩
theorem RoomV.lower {w:World}{B B':Nat}{A:Option Addr}{xs:List Int}{v:Value} (h:RoomV w B A xs v) (hb:B'≤B):RoomV w B' A xs v:=by
 rcases h with h | ⟨h1,G,h2,h3⟩
 ·exact .inl h
 ·exact .inr ⟨h1,G,Nat.le_trans hb h2,h3⟩
theorem RoomV.other {w:World}{B g k:Nat}{x:Value}{A:Option Addr}{xs:List Int}{v:Value} (h:RoomV w B A xs v) (hg:g<B):RoomV (w.setCell ⟨g,k,none⟩ x) B A xs v:=by
 rcases h with h | ⟨h1,G,h2,h3,h4⟩
 ·exact .inl h
 ·exact .inr ⟨h1,G,h2,h3,(Below.heap_setCell _ _ _ _ (by simp;omega)).trans h4⟩
theorem OpsCp.other {w:World}{B g k:Nat}{x:Value}{ops:List OpF}{v:Value} (h:OpsCp w B ops v) (hg:g<B):OpsCp (w.setCell ⟨g,k,none⟩ x) B ops v:=by
 obtain ⟨G,h1,h2,h3,h4⟩:=h
 refine ⟨G,h1,by simpa using h2,h3,fun j hj=>?_⟩
 rw [World.cell?_setCell_other w (a:=⟨g,k,none⟩) (b:=⟨G,j,none⟩) (v:=x) (by intro he;injection he;omega)]
 exact h4 j hj
theorem OpsCp.lower {w:World}{B B':Nat}{ops:List OpF}{v:Value} (h:OpsCp w B ops v) (hb:B'≤B):OpsCp w B' ops v:=by
 obtain ⟨G,h1,h2⟩:=h
 exact ⟨G,Nat.le_trans hb h1,h2⟩
theorem RoomV.shape {w:World}{B:Nat}{A:Option Addr}{xs:List Int}{v:Value} (h:RoomV w B A xs v):∃ a n c,v = .slice a n c:=by
 rcases h with ⟨_,rfl⟩ | ⟨_,G,_,rfl,_⟩
 ·exact ⟨_,_,_,rfl⟩
 ·exact ⟨_,_,_,rfl⟩
theorem below_setCells {B g:Nat}{w w':World} (hb:Below B w w') (hg:B≤g):∀ (cs:List Value) (k:Nat),Below B w (w'.setCells g k cs):=by
 intro cs
 induction cs generalizing w' with
 | nil=>intro k;simpa [World.setCells] using hb
 | cons v r ih=>intro k;simpa [World.setCells] using ih (hb.setCell hg v) (k+1)
theorem setCells_size (g:Nat):∀ (cs:List Value) (k:Nat) (w:World),(w.setCells g k cs).heap.size=w.heap.size:=by
 intro cs
 induction cs with
 | nil=>intro k w;rfl
 | cons v r ih=>intro k w;simp [World.setCells,ih]
theorem copy_ops (w W:World) (N:Nat) (ops:List OpF) (A:Option Addr) (C:Nat) (z:Array Value) (hz:z.size=ops.length * 4) (hW:Below w.heap.size w W) (hN:W.heap.size=N) (h:OpsAt w (.slice A ops.length C) ops) :
  ∃ w1,(Builtin.copy_ #[41,41] 3 #[.slice (some ⟨N,0,none⟩) ops.length ops.length,.slice A ops.length C]).run Tryz.prog (W.alloc (.cells z 79)) = .ok (goInt ops.length) w1∧OpsCp w1 N ops (.slice (some ⟨N,0,none⟩) ops.length ops.length)∧Below N W w1∧w1.heap.size=N+1:=by
 subst hN
 have hsz:(Tryz.prog.info? 79).map (·.size)=some 4:=by have:=Tryz.infoOp;cases hq:Tryz.prog.info? 79 with | none=>rw [hq] at this;cases this | some i=>rw [hq] at this;simp at this;simp [this]
 have hB:Below W.heap.size W (W.alloc (.cells z 79)):=(Below.refl _ _).alloc (Nat.le_refl _) _
 rcases Nat.eq_zero_or_pos ops.length with h0 | hp
 ·refine ⟨W.alloc (.cells z 79),?_,⟨W.heap.size,Nat.le_refl _,by simp,rfl,fun j hj=>by omega⟩,hB,by simp⟩
  rw [run_copy_noth (P:=Tryz.prog) _ 41 41 3 79 _ _ _ _ _ _ 4 Tryz.underlying41 hsz (by rw [h0];rfl),h0]
  rfl
 ·obtain ⟨b,o,rfl,hb,hsrc⟩:=ops_src h hp
  have hn:(opCells ops).length=Nat.min ops.length ops.length * 4:=by rw [opCells_len,show Nat.min ops.length ops.length=ops.length from Nat.min_self _]
  have hnew:(W.alloc (.cells z 79)).heap[W.heap.size]? = some (.cells z 79 (0,0)):=heap_alloc_new _ _
  have hr:=run_copy_wide (P:=Tryz.prog) (W.alloc (.cells z 79)) 41 41 3 79 W.heap.size ops.length ops.length ⟨b,o,none⟩ ops.length C 4 (opCells ops) Tryz.underlying41 hsz hn
   (fun j v hv=>by
     have h1:=hsrc j v hv
     rw [Addr.add_lit] at h1 ⊢
     rw [World.cell?_alloc_past _ _ _ (Nat.lt_of_lt_of_le hb hW.size)]
     exact (hW.cell (p:=⟨b,o+j,none⟩) hb).trans h1)
   (fun j hj=>by
     rw [opCells_len] at hj
     rw [cell_of_row _ _ _ _ _ _ hnew]
     simp [hz];omega)
   (fun j hj=>frozen_of_row _ _ _ _ _ hnew)
   (fun v hv=>by
     simp only [opCells,List.mem_flatMap,List.mem_cons,List.not_mem_nil,or_false] at hv
     obtain ⟨x,_,rfl | rfl | rfl | rfl⟩:=hv <;> rfl)
  rw [show Nat.min ops.length ops.length=ops.length from Nat.min_self _] at hr
  refine ⟨_,hr,⟨W.heap.size,Nat.le_refl _,?_,rfl,fun j hj=>?_⟩,below_setCells hB (Nat.le_refl _) _ _,?_⟩
  ·rw [setCells_size];simp
  ·have hin:=World.cell?_setCells_in W.heap.size (opCells ops) 0 (W.alloc (.cells z 79)) (fun j hj=>by
    rw [opCells_len] at hj
    rw [cell_of_row _ _ _ _ _ _ hnew]
    simp [hz];omega) j (by rw [opCells_len];exact hj)
   rw [Nat.zero_add] at hin
   rw [hin,List.getElem?_eq_getElem (by rw [opCells_len];exact hj)]
  ·rw [setCells_size];simp
set_option maxHeartbeats 4000000 in
set_option maxRecDepth 100000 in
theorem lcopied_any (w:World) (Ao Ac An Au:Option Addr) (Co Cc Cn Cu:Nat) (c:CdF) (h:ArgC w Ao Ac An Au Co Cc Cn Cu c) :
  Calls Tryz.prog 17 #[.agg #[.slice Ao c.ops.length Co,.slice Ac c.cells.length Cc,.slice An c.next.length Cn,.slice Au c.out.length Cu]] w fun e w'=>∃ vO vC vN vU,e = .returned (.agg #[vO,vC,vN,vU])∧CodeCp w' w.heap.size Ac An Au c vO vC vN vU∧Below w.heap.size w w':=by
 obtain ⟨i4,hi4,hz4,hs4,hb4⟩:=info_parts Tryz.infoOp
 have hol:c.ops.length≤4398046511104:=by obtain ⟨_,_,_,hl,_⟩:=h.ops;exact hl
 have hmk:∀ w:World,(Instr.makeSlice 41 (.int .i64 (c.ops.length:Int)) (.int .i64 (c.ops.length:Int))).run Tryz.prog w = .ok (.slice (some ⟨w.heap.size,0,none⟩) c.ops.length c.ops.length) (w.alloc (.cells (madeCells #[.int .i64 0,.int .i64 0,.int .i64 0,.int .i64 0] (c.ops.length * 4)) 79)):=fun w=>by
  have:=run_make (P:=Tryz.prog) w 41 79 i4 _ Tryz.underlying41 hi4 hz4 .i64 .i64 c.ops.length c.ops.length (by omega) (by omega) (by rw [hb4];omega) (by omega)
  rw [hs4] at this
  simpa [Value.cells] using this
 clear hi4 hz4 hs4 hb4
 obtain ⟨W0,hW0⟩:∃ W0,W0=(w.alloc (.cells #[.slice Ao c.ops.length Co,.slice Ac c.cells.length Cc,.slice An c.next.length Cn,.slice Au c.out.length Cu] 43)).alloc (.cells #[.slice none 0 0,.slice none 0 0,.slice none 0 0,.slice none 0 0] 43):=⟨_,rfl⟩
 have hS0:W0.heap.size=w.heap.size+1+1:=by rw [hW0];simp
 have hB0:Below w.heap.size w W0:=by rw [hW0];exact ((Below.refl _ _).alloc (Nat.le_refl _) _).alloc (by simp) _
 obtain ⟨w1,hcp,hO1,hB1,hS1⟩:=copy_ops w W0 (w.heap.size+1+1) c.ops Ao Co (madeCells #[.int .i64 0,.int .i64 0,.int .i64 0,.int .i64 0] (c.ops.length * 4)) (size_madeCells _ _) hB0 hS0 h.ops
 have hBw:Below w.heap.size w w1:=hB0.trans (hB1.mono (by omega))
 have hbx0:W0.heap[w.heap.size]? = some (.cells #[.slice Ao c.ops.length Co,.slice Ac c.cells.length Cc,.slice An c.next.length Cn,.slice Au c.out.length Cu] 43 (0,0)):=by rw [hW0,heap_alloc_old _ _ (by simp)];exact heap_alloc_new _ _
 have hbx1:W0.heap[w.heap.size+1]? = some (.cells #[.slice none 0 0,.slice none 0 0,.slice none 0 0,.slice none 0 0] 43 (0,0)):=by rw [hW0];have:=heap_alloc_new (w.alloc (.cells #[.slice Ao c.ops.length Co,.slice Ac c.cells.length Cc,.slice An c.next.length Cn,.slice Au c.out.length Cu] 43)) (.cells #[.slice none 0 0,.slice none 0 0,.slice none 0 0,.slice none 0 0] 43);simpa using this
 have hx0:w1.heap[w.heap.size]? = _:=(hB1.block _ (by omega)).trans hbx0
 have hx1:w1.heap[w.heap.size+1]? = _:=(hB1.block _ (by omega)).trans hbx1
 rw [hW0] at hcp
 clear hW0 hbx0 hbx1
 have hroom:∀ (A:Option Addr) (C:Nat) (xs:List Int),RowAt w (.slice A xs.length C) xs→(A=none→xs=[])→xs.length≤17592186044416→Hid (∀ W:World,Below w1.heap.size w1 W→Calls Tryz.prog 20 #[.slice A xs.length C] W fun e w'=>∃ v,e = .returned v∧RoomV w' w1.heap.size A xs v∧Below w1.heap.size w1 w'∧Below W.heap.size W w'):=fun A C xs a1 a2 a3=>hide fun W hW=>by
  have hbw:Below w.heap.size w W:=hBw.trans (hW.mono hBw.size)
  refine (lroomy_any W A C xs (a1.below hbw) a2 a3).mono ?_
  rintro e w' ⟨v,rfl,hv,hb⟩
  exact ⟨v,rfl,hv.lower hW.size,hW.trans (hb.mono hW.size),hb⟩
 have H1:=hroom Ac Cc c.cells h.cells.1 h.cells.2.1 h.cells.2.2
 have H2:=hroom An Cn c.next h.next.1 h.next.2.1 h.next.2.2
 have H3:=hroom Au Cu c.out h.out.1 h.out.2.1 h.out.2.2
 have HC:Hid (∀ W:World,Below w1.heap.size w1 W→W.cell? ⟨w.heap.size,1,none⟩=some (.slice Ac c.cells.length Cc)∧W.cell? ⟨w.heap.size,2,none⟩=some (.slice An c.next.length Cn)∧W.cell? ⟨w.heap.size,3,none⟩=some (.slice Au c.out.length Cu)):=hide fun W hW=>by
  have hx:W.heap[w.heap.size]? = _:=(hW.block _ (by omega)).trans hx0
  refine ⟨?_,?_,?_⟩ <;> rw [cell_of_row _ _ _ _ _ _ hx] <;> rfl
 have HR:Hid (∀ W:World,Below w1.heap.size w1 W→(W.cell? ⟨w.heap.size+1,0,none⟩=some (.slice none 0 0)∧W.cell? ⟨w.heap.size+1,1,none⟩=some (.slice none 0 0)∧W.cell? ⟨w.heap.size+1,2,none⟩=some (.slice none 0 0)∧W.cell? ⟨w.heap.size+1,3,none⟩=some (.slice none 0 0))∧(W.frozen? ⟨w.heap.size+1,0,none⟩=false∧W.frozen? ⟨w.heap.size+1,1,none⟩=false∧W.frozen? ⟨w.heap.size+1,2,none⟩=false∧W.frozen? ⟨w.heap.size+1,3,none⟩=false)):=hide fun W hW=>by
  have hx:W.heap[w.heap.size+1]? = _:=(hW.block _ (by omega)).trans hx1
  refine ⟨⟨?_,?_,?_,?_⟩,frozen_of_row _ _ _ _ _ hx,frozen_of_row _ _ _ _ _ hx,frozen_of_row _ _ _ _ _ hx,frozen_of_row _ _ _ _ _ hx⟩ <;> rw [cell_of_row _ _ _ _ _ _ hx] <;> rfl
 have HO:=hide hO1
 have HB:=hide hBw
 have HS:=hide hS1
 obtain ⟨y1,y2,y3⟩:=HC.out w1 (Below.refl _ _)
 clear h hx0 hx1 hO1 hBw hS1 hB0 hB1 hS0 hroom
 go_enter Tryz.func17,Tryz.ntmps17
 go_wp2_with fail
 clear hcp hmk
 go_region_held3 (fun w'=>w'.cell? ⟨w.heap.size,1,none⟩=some (.slice Ac c.cells.length Cc)∧w'.cell? ⟨w.heap.size,2,none⟩=some (.slice An c.next.length Cn)∧w'.cell? ⟨w.heap.size,3,none⟩=some (.slice Au c.out.length Cu)) (go_keep)
  (first
    | (have _x3:=HB3;clear _x3;go_at_call 20;refine (H3.out _ HB3.out).mono ?_;rintro e w4 ⟨vU,rfl,hU,hb4,hc4⟩;obtain ⟨o1,o2,o3⟩:=HC.out _ hb4;obtain ⟨⟨r0,r1,r2,r3⟩,f0,f1,f2,f3⟩:=HR.out _ hb4;obtain ⟨aU,nU,kU,rfl⟩:=hU.shape;have HU1:=hide hU;have HN2:=hide (HN1.out.below hc4);have HC3:=hide (HC2.out.below hc4);have HB4:=hide hb4;clear hU hb4 hc4)
    | (have _x2:=HB2;clear _x2;go_at_call 20;refine (H2.out _ HB2.out).mono ?_;rintro e w3 ⟨vN,rfl,hN,hb3,hc3⟩;obtain ⟨u1,u2,u3⟩:=HC.out _ hb3;obtain ⟨aN,nN,kN,rfl⟩:=hN.shape;have HN1:=hide hN;have HC2:=hide (HC1.out.below hc3);have HB3:=hide hb3;clear hN hb3 hc3)
    | (go_at_call 20;refine (H1.out _ (Below.refl _ _).drew).mono ?_;rintro e w2 ⟨vC,rfl,hC,hb2,hc2⟩;obtain ⟨t1,t2,t3⟩:=HC.out _ hb2;obtain ⟨aC,nC,kC,rfl⟩:=hC.shape;have HC1:=hide hC;have HB2:=hide hb2;clear hC hb2 hc2))
 rename_i hHeld
 have HCP:Hid (CodeCp ((((w4.setCell ⟨w.heap.size+1,0,none⟩ (.slice (some ⟨w.heap.size+1+1,0,none⟩) c.ops.length c.ops.length)).setCell ⟨w.heap.size+1,1,none⟩ (.slice aC nC kC)).setCell ⟨w.heap.size+1,2,none⟩ (.slice aN nN kN)).setCell ⟨w.heap.size+1,3,none⟩ (.slice aU nU kU)) w.heap.size Ac An Au c (.slice (some ⟨w.heap.size+1+1,0,none⟩) c.ops.length c.ops.length) (.slice aC nC kC) (.slice aN nN kN) (.slice aU nU kU)):=hide (by
  have hs:=HS.out
  have ho:=HO.out.below HB4.out
  have hg:w.heap.size+1<w1.heap.size:=by omega
  have hg2:w.heap.size+1<w.heap.size+1+1:=by omega
  have hl:w.heap.size≤w1.heap.size:=by omega
  exact ⟨((((ho.other hg2).other hg2).other hg2).other hg2).lower (by omega),((((HC3.out.other hg).other hg).other hg).other hg).lower hl,((((HN2.out.other hg).other hg).other hg).other hg).lower hl,((((HU1.out.other hg).other hg).other hg).other hg).lower hl⟩)
 have HBW:Hid (Below w.heap.size w ((((w4.setCell ⟨w.heap.size+1,0,none⟩ (.slice (some ⟨w.heap.size+1+1,0,none⟩) c.ops.length c.ops.length)).setCell ⟨w.heap.size+1,1,none⟩ (.slice aC nC kC)).setCell ⟨w.heap.size+1,2,none⟩ (.slice aN nN kN)).setCell ⟨w.heap.size+1,3,none⟩ (.slice aU nU kU))):=hide (by
  have hb:=HB.out.trans (HB4.out.mono HB.out.size)
  have hg:w.heap.size≤w.heap.size+1:=by omega
  exact (((hb.setCell hg _).setCell hg _).setCell hg _).setCell hg _)
 clear hHeld HO HB HS HC3 HN2 HU1 H1 H2 H3 HC HR
 go_wp2
 refine bodyPost_ret (v:=.agg #[.slice (some ⟨w.heap.size+1+1,0,none⟩) c.ops.length c.ops.length,.slice aC nC kC,.slice aN nN kN,.slice aU nU kU]) (by simp [results,Tryz.results17,go_sem,r0,r1,r2,r3]) rfl ?_
 exact ⟨_,_,_,_,rfl,HCP.out,HBW.out⟩

theorem op_cells {w:World}{v:Value}{ops:List OpF} (h:OpsAt w v ops):∃ A C,v = .slice A ops.length C∧ops.length≤4398046511104∧(0<ops.length→∃ b o,A=some ⟨b,o,none⟩∧b<w.heap.size∧∀ i (hi:i<ops.length),w.cell? ⟨b,o+i * 4,none⟩=some (.int .i64 ops[i].k)∧w.cell? ⟨b,o+i * 4+1,none⟩=some (.int .i64 ops[i].a)∧w.cell? ⟨b,o+i * 4+2,none⟩=some (.int .i64 ops[i].b)∧w.cell? ⟨b,o+i * 4+3,none⟩=some (.int .i64 ops[i].c)):=h
theorem op_same (w:World) (k a b c:Int):(binOp .neq 79 (.agg #[.int .i64 k,.int .i64 a,.int .i64 b,.int .i64 c]) (.agg #[.int .i64 k,.int .i64 a,.int .i64 b,.int .i64 c])).run Tryz.prog w = .ok (.bool false) w:=by
 have hu:Tryz.prog.underlying 79=some (.struct (Tryz.prog.fieldsOf 79)):=by kernel_rfl
 have hp:Tryz.prog.stoodInHeld 79=false:=by kernel_rfl
 have hf : (Tryz.prog.fieldsOf 79).toList.map (fun f => (decide (f.name = "_"), f.type, f.offset)) = [(false, 3, 0), (false, 3, 1), (false, 3, 2), (false, 3, 3)] := by kernel_rfl
 rw [run_neq_struct,run_equalIn_struct w 9999 _ _ _ hu hp]
 clear hu hp
 generalize (Tryz.prog.fieldsOf 79).toList=fs at *
 obtain ⟨f0,r0,rfl,e0,hf⟩:=List.map_eq_cons_iff.1 hf
 obtain ⟨f1,r1,rfl,e1,hf⟩:=List.map_eq_cons_iff.1 hf
 obtain ⟨f2,r2,rfl,e2,hf⟩:=List.map_eq_cons_iff.1 hf
 obtain ⟨f3,r3,rfl,e3,hf⟩:=List.map_eq_cons_iff.1 hf
 have hr:=List.map_eq_nil_iff.1 hf
 subst hr
 simp only [Prod.mk.injEq,decide_eq_false_iff_not] at e0 e1 e2 e3
 obtain ⟨a0,b0,c0⟩:=e0
 obtain ⟨a1,b1,c1⟩:=e1
 obtain ⟨a2,b2,c2⟩:=e2
 obtain ⟨a3,b3,c3⟩:=e3
 simp [Op.eqFields,a0,a1,a2,a3,b0,b1,b2,b3,c0,c1,c2,c3,go_sem]
end Go.Proofs.YtecegaflhdgfaaaGreat
