import Derived.Laws.CopyOwn
import Derived.Laws.Cover3
import Derived.Deep.Matrix
import Derived.SizedLaws
import Derived.Carry
import Derived.ProofKit
import Derived.Test.YtmndgoapkmhglaaGreatM23WrC
import Derived.Test.YtmndgoapkmhglaaGreatM35SvC
namespace Go.Proofs.YtmndgoapkmhglaaGreat
open Go.RowKit
attribute [local go_sem ↓] Go.wp_at_zero Go.wp_at_succ
structure OwnV where
 a:Value
 b:Value
 c:Value
 d:Value
 n:Nat
 m:Int
abbrev OwnV.val (o:OwnV):Value:=.agg #[o.a,o.b,o.c,o.d,.int .i64 o.m]
def OwnV.cells (o:OwnV):List Value:=[o.a,o.b,o.c,o.d,.int .i64 o.m]
structure OwnAt (w:World) (K:Nat→Prop) (o:OwnV):Prop where
 a:AllM w K o.a o.n o.m
 b:AllM w K o.b (o.n+1) o.m
 c:AllM w K o.c (o.n+2) o.m
 d:AllM w K o.d (o.n+6) o.m
theorem OwnAt.keep {w w':World}{K K':Nat→Prop}{o:OwnV} (h:OwnAt w K o) (hs:w.heap.size≤w'.heap.size) (hk:∀ b,b<w.heap.size→K b→K' b)
  (hc:∀ b,b<w.heap.size→K b→∀ c,w.cell? ⟨b,c,none⟩=some (.int .i64 o.m)→w'.cell? ⟨b,c,none⟩=some (.int .i64 o.m)):OwnAt w' K' o:=
 ⟨h.a.keep hs hk hc,h.b.keep hs hk hc,h.c.keep hs hk hc,h.d.keep hs hk hc⟩
theorem OwnAt.below {w w':World}{K:Nat→Prop}{o:OwnV} (h:OwnAt w K o) (hb:Below w.heap.size w w'):OwnAt w' K o:=
 ⟨h.a.below hb,h.b.below hb,h.c.below hb,h.d.below hb⟩
theorem set_mark {xs:List Int}{m:Nat}{mk:Int} (h:m<xs.length):((List.replicate m (Value.int .i64 mk)) ++ ((xs.map fun x=>Value.int .i64 x).drop m)).set m (.int .i64 mk)=(List.replicate (m+1) (Value.int .i64 mk)) ++ ((xs.map fun x=>Value.int .i64 x).drop (m+1)):=by
 rw [List.set_append_right _ _ (by simp),List.length_replicate,Nat.sub_self,List.drop_eq_getElem_cons (by simpa using h),List.set_cons_zero,List.replicate_succ',List.append_assoc]
 rfl
theorem box3 {wr w1 w2 w3:World}{b:Nat}{row:Option Nat}{o1 o2 o3 o:Obj} (hne:some b≠row) (hlt:b<wr.heap.size) (hb:wr.heap[b]? = some o) (h1:(wr.alloc o1).grownBy w1 row) (h2:(w1.alloc o2).grownBy w2 row) (h3:(w2.alloc o3).grownBy w3 row):w3.heap[b]? = some o:=by
 have s1:=h1.size
 have s2:=h2.size
 simp at s1 s2
 rw [h3.block b (by simp;omega) hne,Below.heap_alloc _ _ _ (by omega),h2.block b (by simp;omega) hne,Below.heap_alloc _ _ _ (by omega),h1.block b (by simp;omega) hne,Below.heap_alloc _ _ _ hlt]
 exact hb
set_option maxHeartbeats 2000000 in
set_option maxRecDepth 100000 in
theorem lown_any (w:World) (B:Nat) (v:Value) (xs:List Int) (mk:Int) (h:w.ownsRow B 3 1 v xs.length (xs.map fun x=>.int .i64 x)) (hn:xs.length≤100000) :
  Calls Tryz.prog 10 #[v,.int .i64 mk] w fun e w'=>∃ o:OwnV,e = .returned o.val∧o.a=v∧o.n=xs.length∧o.m=mk∧OwnAt w' (fun b=>v.ownBlock=some b∨w.heap.size≤b) o∧w.grownBy w' v.ownBlock:=by
 obtain ⟨i0,hi0,hz0,hz1,hz2⟩:=info_parts Tryz.infoInt
 obtain ⟨A,C,rfl,hsh⟩:=own_shape h
 have HW:=hide h
 have HSH:=hide hsh
 clear h hsh
 go_enter Tryz.func10,Tryz.ntmps10
 go_wp2
 go_loopw [5] (fun vi wr=>∃ m:Nat,m≤xs.length∧vi = .int .i64 m∧wr.ownsRow B 3 1 (.slice A xs.length C) xs.length ((List.replicate m (Value.int .i64 mk)) ++ ((xs.map fun x=>Value.int .i64 x).drop m))∧w.grownBy wr (Value.slice A xs.length C).ownBlock∧w.heap.size<wr.heap.size∧wr.heap[w.heap.size]? = some (.cells #[.slice none 0 0,.slice none 0 0,.slice none 0 0,.slice none 0 0,.int .i64 0] 36)) (fun vi _=>xs.length - (intOf vi).toNat)
 case atStart=>exact ⟨0,Nat.zero_le _,rfl,by simpa using HW.out.alloc _,grown_alloc _ _ _,by simp,heap_alloc_new w _⟩
 case round=>
  obtain ⟨m,hm,rfl,hown,hgr,hlt,hbx⟩:=hrel
  have HBX:=hide hbx
  have HNE:Hid ((Value.slice A xs.length C).ownBlock≠some w.heap.size):=hide (fun e=>by have:=(HW.out.lt _ e).2;omega)
  have HO:=hide hown
  have HG:=hide hgr
  clear hown hgr hbx
  by_cases hml:m<xs.length
  ·obtain ⟨g,rfl,_,hgl⟩:=HSH.out (by omega)
   have hc:=HO.out.cellAt m (by omega)
   rw [List.getElem?_append_right (by simp),List.length_replicate,Nat.sub_self,List.getElem?_drop,List.getElem?_map,Nat.add_zero,List.getElem?_eq_getElem hml] at hc
   have hf:=HO.out.frozenAt m
   have j3:(0:Int)≤(m:Int):=by omega
   have j4:(m:Int)<(xs.length:Int):=by omega
   obtain ⟨hs1,hs2⟩:=HO.out.stored m (.int .i64 mk)
   rw [set_mark hml] at hs1
   have HS1:=hide hs1
   have HS2:=hide hs2
   simp only [Option.map_some] at hc
   generalize xs[m]=u at hc
   clear hs1 hs2
   go_wp2
   go_roundw
   case rel=>exact ⟨m+1,by omega,by go_num,by first | exact HS1.out | exact HS1.out.drew,⟨HS2.out.os.trans HG.out.os,HS2.out.tape.trans HG.out.tape,HS2.out.output.trans HG.out.output,Nat.le_trans HG.out.size HS2.out.size,fun k hk hne=>(HS2.out.block k (Nat.lt_of_lt_of_le hk HG.out.size) hne).trans (HG.out.block k hk hne)⟩,by simpa using hlt,(HS2.out.block w.heap.size hlt (Ne.symm HNE.out)).trans HBX.out⟩
   case measure=>simp [intOf];omega
  ·have em:m=xs.length:=by omega
   subst em
   have z1:¬ (xs.length:Int)<(xs.length:Int):=by omega
   have hown0:=HO.out
   rw [List.drop_of_length_le (by simp),List.append_nil] at hown0
   have hsz:=HG.out.size
   clear HO HW HSH
   go_wp2_with (at_builtin;first
    | (refine append_marks _ rfl _ _ _ rfl 3 i0 _ Tryz.underlying34 hi0 hz0 hz1 hz2 rfl B xs.length 1 mk _ rfl (hown0.alloc _) ⟨wr.heap.size,0,none⟩ 1 rfl (marks_block _ _ _ 1 mk rfl) (by omega) (by omega) ?_;intro v1 w1 ho1 hg1 hk1 ha1 hs1;obtain ⟨A1,C1,rfl⟩:=hs1)
    | (refine append_marks _ rfl _ _ _ rfl 3 i0 _ Tryz.underlying34 hi0 hz0 hz1 hz2 rfl B xs.length 2 mk _ rfl (ho1.alloc _) ⟨w1.heap.size,0,none⟩ 2 rfl (marks_block _ _ _ 2 mk rfl) (by omega) (by omega) ?_;intro v2 w2 ho2 hg2 hk2 ha2 hs2;obtain ⟨A2,C2,rfl⟩:=hs2)
    | (refine append_marks _ rfl _ _ _ rfl 3 i0 _ Tryz.underlying34 hi0 hz0 hz1 hz2 rfl B xs.length 6 mk _ rfl (ho2.alloc _) ⟨w2.heap.size,0,none⟩ 6 rfl (marks_block _ _ _ 6 mk rfl) (by omega) (by omega) ?_;intro v3 w3 ho3 hg3 hk3 ha3 hs3;obtain ⟨A3,C3,rfl⟩:=hs3;have hb3:=box3 (Ne.symm HNE.out) hlt HBX.out hg1 hg2 hg3;have c0:=cell_of_row w3 w.heap.size 0 _ _ _ hb3;have c1:=cell_of_row w3 w.heap.size 1 _ _ _ hb3;have c2:=cell_of_row w3 w.heap.size 2 _ _ _ hb3;have c3:=cell_of_row w3 w.heap.size 3 _ _ _ hb3;have c4:=cell_of_row w3 w.heap.size 4 _ _ _ hb3;have f0:=frozen_of_row w3 w.heap.size 0 _ _ hb3;have f1:=frozen_of_row w3 w.heap.size 1 _ _ hb3;have f2:=frozen_of_row w3 w.heap.size 2 _ _ hb3;have f3:=frozen_of_row w3 w.heap.size 3 _ _ hb3;have f4:=frozen_of_row w3 w.heap.size 4 _ _ hb3))
   have hs1:=hg1.size
   have hs2:=hg2.size
   have hs3:=hg3.size
   simp at hs1 hs2 hs3
   have hal:∀ (W:World) (o:Obj) (b c:Nat),b<W.heap.size→(W.alloc o).cell? ⟨b,c,none⟩=W.cell? ⟨b,c,none⟩:=fun W o b c h=>World.cell?_alloc_past _ _ _ h
   have hw:∀ b,b<w3.heap.size→((Value.slice A xs.length C).ownBlock=some b∨wr.heap.size≤b)→b≠w.heap.size:=fun b _ hb e=>by
    rcases hb with hb | hb
    ·rw [e] at hb;exact HNE.out hb
    ·omega
   have k0:AllM wr (fun b=>(Value.slice A xs.length C).ownBlock=some b∨wr.heap.size≤b) (.slice A xs.length C) xs.length mk:=own_allM (by omega) hown0 _ (fun b hb=>.inl hb)
   have up1:∀ v n,AllM wr (fun b=>(Value.slice A xs.length C).ownBlock=some b∨wr.heap.size≤b) v n mk→AllM w1 (fun b=>(Value.slice A xs.length C).ownBlock=some b∨wr.heap.size≤b) v n mk:=fun v n h=>h.keep (by omega) (fun _ _ h=>h) (fun b hb _ c hc=>hk1 b c ((hal _ _ b c hb).trans hc))
   have up2:∀ v n,AllM w1 (fun b=>(Value.slice A xs.length C).ownBlock=some b∨wr.heap.size≤b) v n mk→AllM w2 (fun b=>(Value.slice A xs.length C).ownBlock=some b∨wr.heap.size≤b) v n mk:=fun v n h=>h.keep (by omega) (fun _ _ h=>h) (fun b hb _ c hc=>hk2 b c ((hal _ _ b c hb).trans hc))
   have up3:∀ v n,AllM w2 (fun b=>(Value.slice A xs.length C).ownBlock=some b∨wr.heap.size≤b) v n mk→AllM w3 (fun b=>(Value.slice A xs.length C).ownBlock=some b∨wr.heap.size≤b) v n mk:=fun v n h=>h.keep (by omega) (fun _ _ h=>h) (fun b hb _ c hc=>hk3 b c ((hal _ _ b c hb).trans hc))
   have l1:AllM w1 (fun b=>(Value.slice A xs.length C).ownBlock=some b∨wr.heap.size≤b) (.slice A1 (xs.length+1) C1) (xs.length+1) mk:=ha1.keep (Nat.le_refl _) (fun b _ h=>h.imp id (fun h=>by simp at h;omega)) (fun _ _ _ _ h=>h)
   have l2:AllM w2 (fun b=>(Value.slice A xs.length C).ownBlock=some b∨wr.heap.size≤b) (.slice A2 (xs.length+2) C2) (xs.length+2) mk:=ha2.keep (Nat.le_refl _) (fun b _ h=>h.imp id (fun h=>by simp at h;omega)) (fun _ _ _ _ h=>h)
   have l3:AllM w3 (fun b=>(Value.slice A xs.length C).ownBlock=some b∨wr.heap.size≤b) (.slice A3 (xs.length+6) C3) (xs.length+6) mk:=ha3.keep (Nat.le_refl _) (fun b _ h=>h.imp id (fun h=>by simp at h;omega)) (fun _ _ _ _ h=>h)
   have q0:=up3 _ _ (up2 _ _ (up1 _ _ k0))
   have q1:=up3 _ _ (up2 _ _ l1)
   have q2:=up3 _ _ l2
   have hgr:w.grownBy w3 (Value.slice A xs.length C).ownBlock:=grown_trans (grown_trans (grown_trans HG.out (grown_trans (grown_alloc _ _ _) hg1)) (grown_trans (grown_alloc _ _ _) hg2)) (grown_trans (grown_alloc _ _ _) hg3)
   have fin:∀ v n u0 u1 u2 u3 u4,AllM w3 (fun b=>(Value.slice A xs.length C).ownBlock=some b∨wr.heap.size≤b) v n mk→AllM (((((w3.setCell ⟨w.heap.size,0,none⟩ u0).setCell ⟨w.heap.size,1,none⟩ u1).setCell ⟨w.heap.size,2,none⟩ u2).setCell ⟨w.heap.size,3,none⟩ u3).setCell ⟨w.heap.size,4,none⟩ u4) (fun b=>(Value.slice A xs.length C).ownBlock=some b∨w.heap.size≤b) v n mk:=fun v n u0 u1 u2 u3 u4 h=>by
    refine h.keep (by simp) (fun b _ h=>h.imp id (fun h=>by omega)) (fun b hb hK c hc=>?_)
    have hne:=hw b hb hK
    rw [World.cell?_setCell_other _ _ _ _ (by intro e;exact hne (congrArg Addr.block e).symm),World.cell?_setCell_other _ _ _ _ (by intro e;exact hne (congrArg Addr.block e).symm),World.cell?_setCell_other _ _ _ _ (by intro e;exact hne (congrArg Addr.block e).symm),World.cell?_setCell_other _ _ _ _ (by intro e;exact hne (congrArg Addr.block e).symm),World.cell?_setCell_other _ _ _ _ (by intro e;exact hne (congrArg Addr.block e).symm)]
    exact hc
   refine bodyPost_ret (v:=.agg #[.slice A xs.length C,.slice A1 (xs.length+1) C1,.slice A2 (xs.length+2) C2,.slice A3 (xs.length+6) C3,.int .i64 mk]) (by simp [results,Tryz.results10,go_sem,c0,c1,c2,c3,c4]) rfl ?_
   exact ⟨⟨.slice A xs.length C,.slice A1 (xs.length+1) C1,.slice A2 (xs.length+2) C2,.slice A3 (xs.length+6) C3,xs.length,mk⟩,rfl,rfl,rfl,rfl,⟨fin _ _ _ _ _ _ _ q0,fin _ _ _ _ _ _ _ q1,fin _ _ _ _ _ _ _ q2,fin _ _ _ _ _ _ _ l3⟩,grown_set (grown_set (grown_set (grown_set (grown_set hgr (Nat.le_refl _) _) (Nat.le_refl _) _) (Nat.le_refl _) _) (Nat.le_refl _) _) (Nat.le_refl _) _⟩
set_option maxHeartbeats 1000000 in
theorem lholds_any (w:World) (K:Nat→Prop) (o:OwnV) (h:OwnAt w K o) :
  Calls Tryz.prog 11 #[o.val] w fun e w'=>e = .returned (.bool true)∧Below w.heap.size w w':=by
 obtain ⟨a,b,c,d,n,mk⟩:=o
 have hal:∀ k,(List.replicate k mk).all (· == mk)=true:=fun k=>by rw [List.all_eq_true];intro x hx;rw [(List.mem_replicate.1 hx).2];simp
 have H1:=hide (fun W (hW:Below w.heap.size w W)=>lfull_any W a _ mk (h.a.below hW).row)
 have H2:=hide (fun W (hW:Below w.heap.size w W)=>lfull_any W b _ mk (h.b.below hW).row)
 have H3:=hide (fun W (hW:Below w.heap.size w W)=>lfull_any W c _ mk (h.c.below hW).row)
 have H4:=hide (fun W (hW:Below w.heap.size w W)=>lfull_any W d _ mk (h.d.below hW).row)
 simp only [hal] at H1 H2 H3 H4
 obtain ⟨A1,C1,e1,_⟩:=h.a
 obtain ⟨A2,C2,e2,_⟩:=h.b
 obtain ⟨A3,C3,e3,_⟩:=h.c
 obtain ⟨A4,C4,e4,_⟩:=h.d
 simp only at e1 e2 e3 e4
 subst e1 e2 e3 e4
 clear h hal
 obtain ⟨bx,hbx⟩:∃ bx,bx=w.alloc (.cells #[.slice A1 n C1,.slice A2 (n+1) C2,.slice A3 (n+2) C3,.slice A4 (n+6) C4,.int .i64 mk] 36):=⟨_,rfl⟩
 have HB0:Hid (Below w.heap.size w bx):=hide (by rw [hbx];exact (Below.refl _ _).alloc (Nat.le_refl _) _)
 have HSZ:Hid (w.heap.size<bx.heap.size):=hide (by rw [hbx];simp)
 have HC:Hid (∀ W,Below bx.heap.size bx W→W.cell? ⟨w.heap.size,1,none⟩=some (.slice A2 (n+1) C2)∧W.cell? ⟨w.heap.size,2,none⟩=some (.slice A3 (n+2) C3)∧W.cell? ⟨w.heap.size,3,none⟩=some (.slice A4 (n+6) C4)∧W.cell? ⟨w.heap.size,4,none⟩=some (.int .i64 mk)):=hide (fun W hW=>by
  have hN:W.heap[w.heap.size]? = some (.cells #[.slice A1 n C1,.slice A2 (n+1) C2,.slice A3 (n+2) C3,.slice A4 (n+6) C4,.int .i64 mk] 36):=(hW.block w.heap.size HSZ.out).trans (by rw [hbx];exact heap_alloc_new w _)
  exact ⟨by rw [cell_of_row W _ 1 _ _ _ hN];rfl,by rw [cell_of_row W _ 2 _ _ _ hN];rfl,by rw [cell_of_row W _ 3 _ _ _ hN];rfl,by rw [cell_of_row W _ 4 _ _ _ hN];rfl⟩)
 go_enter Tryz.func11,Tryz.ntmps11
 go_wp2_with fail
 rw [← hbx]
 refine (H1.out bx HB0.out).mono ?_
 rintro e w1 ⟨rfl,hb1⟩
 obtain ⟨x1,x2,x3,x4⟩:=HC.out w1 hb1
 have HB1:=hide hb1
 clear hb1
 go_wp2_with fail
 refine (H2.out w1 (HB0.out.trans (HB1.out.mono HB0.out.size))).mono ?_
 rintro e w2 ⟨rfl,hb2⟩
 have HB2:=hide (HB1.out.trans (hb2.mono HB1.out.size))
 clear hb2 x1 x2 x3 x4
 obtain ⟨x1,x2,x3,x4⟩:=HC.out w2 HB2.out
 go_wp2_with fail
 refine (H3.out w2 (HB0.out.trans (HB2.out.mono HB0.out.size))).mono ?_
 rintro e w3 ⟨rfl,hb3⟩
 have HB3:=hide (HB2.out.trans (hb3.mono HB2.out.size))
 clear hb3 x1 x2 x3 x4
 obtain ⟨x1,x2,x3,x4⟩:=HC.out w3 HB3.out
 go_wp2_with fail
 refine (H4.out w3 (HB0.out.trans (HB3.out.mono HB0.out.size))).mono ?_
 rintro e w4 ⟨rfl,hb4⟩
 have HB4:=hide (HB3.out.trans (hb4.mono HB3.out.size))
 clear hb4 x1 x2 x3 x4
 go_wp2
 go_ret
 exact ⟨rfl,HB0.out.trans (HB4.out.mono HB0.out.size)⟩
def RoomV (w:World) (B:Nat) (A:Option Addr) (xs:List Int) (v:Value):Prop:=
 (A=none∧v = .slice none 0 0)∨(A≠none∧∃ G,B≤G∧v = .slice (some ⟨G,0,none⟩) xs.length (xs.length+1)∧w.heap[G]? = some (.cells (iCells (xs ++ [-77])).toArray 3))
theorem RoomV.below {w w':World}{B:Nat}{A:Option Addr}{xs:List Int}{v:Value} (h:RoomV w B A xs v) (hb:Below w.heap.size w w'):RoomV w' B A xs v:=by
 rcases h with h | ⟨h1,G,h2,h3,h4⟩
 ·exact .inl h
 ·exact .inr ⟨h1,G,h2,h3,(hb.block G (Array.getElem?_eq_some_iff.1 h4).1).trans h4⟩
theorem RoomV.row {w:World}{B:Nat}{A:Option Addr}{xs:List Int}{v:Value} (h:RoomV w B A xs v) (h0:A=none→xs=[]) (hm:xs.length≤35184372088832):RowAt w v xs:=by
 rcases h with ⟨h1,rfl⟩ | ⟨h1,G,h2,rfl,h4⟩
 ·rw [h0 h1];exact ⟨none,0,rfl,by simp,fun hp=>by simp at hp⟩
 ·refine ⟨_,_,rfl,hm,fun hp=>⟨G,0,rfl,(Array.getElem?_eq_some_iff.1 h4).1,fun c hc=>?_⟩⟩
  rw [cell_of_row w G _ _ _ _ h4]
  simp [iCells,List.getElem?_append,hc]
theorem eql_nil {P:Program} (t e:TypeId) (h:P.underlying t=some (.slice e)) (w:World) (a:Option Addr) (l c:Nat):(binOp .eql t (.slice a l c) (.slice none 0 0)).run P w = .ok (.bool a.isNone) w:=by
 simp only [binOp]
 simp [run_equal_slice_nil w t e a l c h]
theorem made_rep (z:Value) (n:Nat):madeCells #[z] n=(List.replicate n z).toArray:=by
 apply Array.ext
 ·simp [madeCells]
 ·intro i h1 h2
  simp [madeCells,Nat.mod_one]
set_option maxHeartbeats 2000000 in
set_option maxRecDepth 100000 in
theorem lroomy_any (w:World) (A:Option Addr) (C:Nat) (xs:List Int) (h:RowAt w (.slice A xs.length C) xs) (h0:A=none→xs=[]) (hn:xs.length≤17592186044416) :
  Calls Tryz.prog 20 #[.slice A xs.length C] w fun e w'=>∃ v,e = .returned v∧RoomV w' w.heap.size A xs v∧Below w.heap.size w w':=by
 obtain ⟨A',C',he,hm,hc⟩:=h
 simp only [Value.slice.injEq,true_and] at he
 obtain ⟨rfl,rfl⟩:=he
 have hnil:=eql_nil (P:=Tryz.prog) 34 3 Tryz.underlying34
 cases A with
 | none=>
  have hx:=h0 rfl
  subst hx
  clear hc h0
  go_enter Tryz.func20,Tryz.ntmps20
  go_wp2
  go_ret
  exact ⟨_,rfl,.inl ⟨rfl,rfl⟩,Below.refl _ _⟩
 | some a=>
  have hm2:=run_make_row' (P:=Tryz.prog) 34 3 (.int .i64 0) 8 Tryz.underlying34 Tryz.infoInt rfl .i64 .i64 (xs.length+1) (by omega) (by omega)
  simp only [show ((xs.length+1:Nat):Int)=(xs.length:Int)+1 from by omega] at hm2
  have hsz:(Tryz.prog.info? 3).map (·.size)=some 1:=by have:=Tryz.infoInt;cases hq:Tryz.prog.info? 3 with | none=>rw [hq] at this;cases this | some i=>rw [hq] at this;simp at this;simp [this]
  obtain ⟨X,hX⟩:∃ X,X=iCells xs:=⟨_,rfl⟩
  have HX:=hide hX
  have hXl:X.length=xs.length:=by rw [hX];exact iCells_len xs
  have hpos:0<X.length→∃ ad,(some a:Option Addr)=some ad∧∀ o j v,X[j]? = some v→(w.alloc o).cell? (ad.add j)=some v:=fun hp=>by
   obtain ⟨b,o,h1,h2,h3⟩:=hc (by omega)
   refine ⟨⟨b,o,none⟩,h1,fun oo j v hv=>?_⟩
   rw [hX,iCells_get] at hv
   obtain ⟨x,hx,rfl⟩:=Option.map_eq_some_iff.1 hv
   obtain ⟨hj,rfl⟩:=List.getElem?_eq_some_iff.1 hx
   rw [Addr.add_lit,World.cell?_alloc_past _ _ _ h2]
   exact h3 j hj
  have hone:∀ v∈X,v.oneCell'=true:=fun v hv=>by
   rw [hX] at hv
   obtain ⟨x,_,rfl⟩:=List.mem_map.1 hv
   rfl
  obtain ⟨Z,hZ⟩:∃ Z,Z=List.replicate (xs.length+1) (Value.int .i64 0):=⟨_,rfl⟩
  have hZb:(w.alloc (.cells (madeCells #[.int .i64 0] (xs.length+1)) 3)).heap[w.heap.size]? = some (.cells Z.toArray 3 (0,0)):=by
   rw [heap_alloc_new,hZ,made_rep]
  have hZl:Z.length=xs.length+1:=by rw [hZ];simp
  have HZ:=hide hZ
  have HB0:=hide ((Below.refl w.heap.size w).alloc (Nat.le_refl _) (.cells (madeCells #[.int .i64 0] (xs.length+1)) 3))
  obtain ⟨w1,hcp,hg1,hb1⟩:∃ w1,(Builtin.copy_ #[34,34] 3 #[.slice (some ⟨w.heap.size,0,none⟩) (xs.length+1) (xs.length+1),.slice (some a) xs.length C]).run Tryz.prog (w.alloc (.cells (madeCells #[.int .i64 0] (xs.length+1)) 3)) = .ok (goInt xs.length) w1∧
    w1.heap[w.heap.size]? = some (.cells (iCells (xs ++ [0])).toArray 3 (0,0))∧Below w.heap.size w w1:=by
   have hmin:X.length=Nat.min xs.length (xs.length+1):=by rw [hXl];exact (Nat.min_eq_left (by omega)).symm
   rcases Nat.eq_zero_or_pos xs.length with hz | hp
   ·refine ⟨w.alloc (.cells (madeCells #[.int .i64 0] (xs.length+1)) 3),?_,hZb.trans ?_,HB0.out⟩
    ·have:=run_copy_none (P:=Tryz.prog) (w.alloc (.cells (madeCells #[.int .i64 0] (xs.length+1)) 3)) 34 34 3 3 (some ⟨w.heap.size,0,none⟩) (some a) (xs.length+1) (xs.length+1) xs.length C Tryz.underlying34 hsz (by rw [← hmin,hXl];exact hz)
     rw [this];simp [hz]
    ·rw [hZ,hz,List.eq_nil_of_length_eq_zero hz];rfl
   ·obtain ⟨ad,had,hsrc⟩:=hpos (by omega)
    cases had
    have hr:=run_copy_row (P:=Tryz.prog) (w.alloc (.cells (madeCells #[.int .i64 0] (xs.length+1)) 3)) 34 34 3 3 w.heap.size 0 (xs.length+1) (xs.length+1) a xs.length C Z.toArray 3 X Tryz.underlying34 hsz hZb hmin (hsrc _) (by simp;omega) hone
    rw [hXl] at hr
    refine ⟨_,hr,?_,below_setRow HB0.out (Nat.le_refl _) _⟩
    rw [setRow_heap _ _ _ _ _ _ hZb]
    congr 2
    rw [hZ,hX]
    simp [iCells,List.replicate_succ']
  have HG1:=hide hg1
  have HB1:=hide hb1
  have k1:w1.cell? ⟨w.heap.size,xs.length,none⟩=some (.int .i64 0):=by
   rw [cell_of_row w1 _ _ _ _ _ hg1]
   simp [iCells]
  have k2:w1.frozen? ⟨w.heap.size,xs.length,none⟩=false:=frozen_of_row w1 _ _ _ _ hg1
  have k3:(xs.length:Int)<(xs.length:Int)+1:=by omega
  have k4:(0:Int)≤(xs.length:Int):=by omega
  have HFIN:Hid ((w1.setCell ⟨w.heap.size,xs.length,none⟩ (.int .i64 (-77))).heap[w.heap.size]? = some (.cells (iCells (xs ++ [-77])).toArray 3)):=hide (by
   rw [heap_setCell_same w1 _ _ _ _ _ hg1]
   congr 2
   simp [iCells])
  clear hc h0 hX hZ hpos hone hZb hsz hXl hZl hg1 hb1
  go_enter Tryz.func20,Tryz.ntmps20
  go_wp2
  go_ret
  exact ⟨_,rfl,.inr ⟨by simp,w.heap.size,Nat.le_refl _,rfl,HFIN.out⟩,HB1.out.setCell (Nat.le_refl _) _⟩



end Go.Proofs.YtmndgoapkmhglaaGreat
namespace Go.Proofs.YtmndgoapkmhglaaGreat
open Go.ChangeShapes Go.WideShapes Go.RowKit Go.Deep
theorem Tryz.cellsInts:Tryz.prog.cellsOf 34=1:=by kernel_rfl
theorem Tryz.cellsInt:Tryz.prog.cellsOf 3=1:=by kernel_rfl
theorem Tryz.bytesInts:Tryz.prog.bytesOf 34=24:=by kernel_rfl
theorem Tryz.bytesInt:Tryz.prog.bytesOf 3=8:=by kernel_rfl
theorem Tryz.laidOut:laidOutB Tryz.prog=true:=by kernel_rfl
theorem plain_add (b o r:Nat):(⟨b,o,none⟩:Addr).add r=⟨b,o+r,none⟩:=Addr.add_lit b o r
theorem wf_i64 {n:Int} (h:(Lit.int .i64 n).wf=true) : -9223372036854775808≤n∧n≤9223372036854775807:=by
 simp only [Lit.wf,Bool.and_eq_true,decide_eq_true_eq] at h
 exact h
theorem spot_none {w:World}{a:Addr}{v:Value} (h:w.cell? (a.add 0)=some v):a.spot=none:=by
 obtain ⟨b,o,sp⟩:=a
 simpa [Addr.add] using World.cell?_spot h
theorem weights_all {H:Type}{P:Program}{e:TypeId}{d:DataW H}:∀ (l:List (DataW H)),d∈l→∀ n∈d.weights P e,n∈DataW.weightsAll P e l:=by
 intro l
 induction l with
 | nil=>intro h;simp at h
 | cons x r ih=>
  intro h n hn
  simp only [DataW.weightsAll,List.mem_append]
  rcases List.mem_cons.1 h with rfl | h
  ·exact .inl hn
  ·exact .inr (ih h n hn)
set_option maxRecDepth 100000 in
theorem open_lists {H:Type}{enc:TypeId × Value→H}{W:World}{A0:Option Addr}{len0 cap0:Nat}{d:DataW H}{ps:List MemPlace} (h:DataW.Trod enc Tryz.prog W 0 (fun _=>true) true 22 (.slice A0 len0 cap0) d ps)
  (hw:∀ n∈d.weights Tryz.prog 22,n≤reachBytes) :
  ∃ (ins:List (List Int)) (AS:Nat→Option Addr) (CS:Nat→Nat),len0=ins.length∧ArgL W A0 cap0 ins AS CS∧∀ l∈ins,∀ x∈l,(Lit.int .i64 x).wf=true:=by
 obtain ⟨fuel,hf⟩:=h
 have hrb:reachBytes=140737488351232:=rfl
 rcases open_int_rows Tryz.underlying22 Tryz.underlying34 Tryz.underlying3 Tryz.cellsInts Tryz.cellsInt hf with ⟨hcs,hx⟩ | ⟨a,len,cap,A,L,C,Z,hcs,_,hl,hm,hx,hrows⟩
 ·simp [Value.cells] at hcs
  obtain ⟨rfl,rfl,rfl⟩:=hcs
  exact ⟨[],fun _=>none,fun _=>0,rfl,⟨by simp,fun _=>rfl,fun hp=>by simp at hp,fun r hr=>by simp at hr,fun r hr=>by simp at hr⟩,fun l hl=>by simp at hl⟩
 ·simp [Value.cells] at hcs
  obtain ⟨rfl,rfl,rfl⟩:=hcs
  simp only [Prod.mk.injEq] at hx
  obtain ⟨rfl,rfl⟩:=hx
  have hsz:(len0+(cap0 - len0)) * 24≤reachBytes:=by
   have:=hw ((len0+(cap0 - len0)) * 24) (by simp [DataW.weights,Tryz.underlying22,Tryz.bytesInts])
   exact this
  have hrow:∀ r,r<len0→(A r≠none→C r * 8≤reachBytes):=fun r hr hne=>by
   obtain ⟨_,h1,_,h2,_,h3,_⟩:=hrows r (by omega)
   refine hw _ ?_
   simp only [DataW.weights,Tryz.underlying22,List.mem_cons,List.mem_append]
   refine .inr (.inl (weights_all (d:=intRow .i64 (A r) (L r) (Z r)) _ (List.mem_map.2 ⟨r,List.mem_range.2 hr,rfl⟩) _ ?_))
   cases hA:A r with
   | none=>exact absurd hA hne
   | some a'=>
    simp only [intRow,DataW.weights,Tryz.underlying34,List.mem_cons]
    refine .inl ?_
    rw [Tryz.bytesInt]
    simp [lits]
    omega
  have hLl:∀ r,r<len0→((Z r).take (L r)).length=L r:=fun r hr=>by
   obtain ⟨_,h1,_,h2,_⟩:=hrows r (by omega)
   rw [List.length_take];omega
  have hget:∀ r,(hr:r<((List.range len0).map fun r=>(Z r).take (L r)).length)→((List.range len0).map fun r=>(Z r).take (L r))[r]=(Z r).take (L r):=fun r hr=>by simp
  refine ⟨(List.range len0).map fun r=>(Z r).take (L r),A,C,by simp,⟨by simp;omega,fun h=>(by cases h),fun hp=>?_,fun r hr=>?_,fun r hr=>?_⟩,fun l hl x hx=>?_⟩
  ·simp at hp
   obtain ⟨b,o,sp⟩:=a
   have hs:sp=none:=spot_none (hrows 0 (by omega)).1
   subst hs
   refine ⟨b,o,rfl,?_,fun r hr=>?_⟩
   ·have:=World.block_lt_of_cell? _ _ (hrows 0 (by omega)).1
    simpa [Addr.add] using this
   ·have hr':r<len0:=by simpa using hr
    rw [hget r hr,hLl r hr',← plain_add]
    exact (hrows r (by omega)).1
  ·have hr':r<len0:=by simpa using hr
   obtain ⟨_,h1,_,h2,_,h3,h4⟩:=hrows r (by omega)
   rw [hget r hr]
   have hCr:A r=none∨C r * 8≤reachBytes:=by
    by_cases hA:A r=none
    ·exact .inl hA
    ·exact .inr (hrow r hr' hA)
   refine ⟨⟨A r,C r,by rw [hLl r hr'],?_,fun hp=>?_⟩,fun hA=>?_,?_⟩
   ·rw [hLl r hr']
    rcases hCr with hA | hC
    ·have:=h3 hA;omega
    ·omega
   ·rw [hLl r hr'] at hp
    cases hA:A r with
    | none=>have:=h3 hA;omega
    | some a'=>
     obtain ⟨_,hcell⟩:=h4 a' hA
     obtain ⟨b,o,sp⟩:=a'
     have hs:sp=none:=spot_none (hcell 0 (by omega))
     subst hs
     refine ⟨b,o,rfl,?_,fun c hc=>?_⟩
     ·have:=World.block_lt_of_cell? _ _ (hcell 0 (by omega))
      simpa [Addr.add] using this
     ·rw [hLl r hr'] at hc
      rw [← plain_add,hcell c (by omega)]
      simp [List.getElem_take,List.getD_eq_getElem?_getD,List.getElem?_eq_getElem (show c<(Z r).length by omega)]
   ·have:=h3 hA
    rw [List.eq_nil_iff_length_eq_zero,hLl r hr']
    omega
   ·rw [hLl r hr']
    rcases hCr with hA | hC
    ·have:=h3 hA;omega
    ·omega
  ·have hr':r<len0:=by simpa using hr
   rw [hget r hr,hLl r hr']
   exact (hrows r (by omega)).2.1
  ·obtain ⟨r,hr,rfl⟩:=List.mem_map.1 hl
   obtain ⟨_,_,_,_,h5,_⟩:=hrows r (by have:=List.mem_range.1 hr;omega)
   exact h5 x (List.mem_of_mem_take hx)
end Go.Proofs.YtmndgoapkmhglaaGreat
