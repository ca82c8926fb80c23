import Derived.Test.YtmndgoapkmhglaaGreatM25WrE
namespace Go.Proofs.YtmndgoapkmhglaaGreat
open Go.RowKit
attribute [local go_sem ↓] Go.wp_at_zero Go.wp_at_succ
def wDelay (E:WEnv) (s:WSt) (f n:Nd) (l:Lt):WSt × Nat:=if (wLink E n).2=true then wHand E s f n else wCell s f l
def WM.cell (m:WM) (x:Int):WM:={ m with s:=⟨m.s.ops,m.s.cells ++ [x],m.s.later⟩ }
def WM.lat (m:WM) (l:Lt):WM:={ m with s:=⟨m.s.ops,m.s.cells,m.s.later ++ [l]⟩ }
theorem iCells_snocW (l:List Int) (x:Int):iCells (l ++ [x])=iCells l ++ [.int .i64 x]:=by simp [iCells]
theorem rows_cell (ds:List Dc) (ns:List Nd) (lk:List Rt) (m:WM) (x:Int):∀ j,up (wRow ds ns lk m) 5 ⟨3,1,m.s.cells.length+1,iCells (m.s.cells ++ [x])⟩ j=wRow ds ns lk (m.cell x) j:=by
 refine row_up ds ns lk m (m.cell x) 5 _ ?_ ?_
 ·simp [wRow,WM.cell]
 ·intro j hj
  match j,hj with
  | 0,_ | 1,_ | 2,_ | 3,_ | 4,_ | 6,_ | 7,_ | 8,_ | 9,_=>rfl
  | 5,h=>exact absurd rfl h
  | n+10,_=>rfl
theorem rows_lat (ds:List Dc) (ns:List Nd) (lk:List Rt) (m:WM) (l:Lt):∀ j,up (wRow ds ns lk m) 9 ⟨3,1,m.s.later.length+1,tCells (m.s.later.map Lt.o ++ [l.o])⟩ j=wRow ds ns lk (m.lat l) j:=by
 refine row_up ds ns lk m (m.lat l) 9 _ ?_ ?_
 ·simp [wRow,WM.lat]
 ·intro j hj
  match j,hj with
  | 0,_ | 1,_ | 2,_ | 3,_ | 4,_ | 5,_ | 6,_ | 7,_ | 8,_=>rfl
  | 9,h=>exact absurd rfl h
  | n+10,_=>rfl
set_option maxHeartbeats 8000000 in
set_option maxRecDepth 100000 in
theorem wdelay_any (w:World) (X:Nat→Prop) (b:Nat) (pl:Int) (ds:List Dc) (ns:List Nd) (lk:List Rt) (m:WM) (h:Wr w X b pl ds ns lk m) (ts:List Tk) (n f g:Nd) (l:Lt) (hl:l.o=n.b) (hf:ns[n.a]? = some f) (hg:ns[n.b]? = some g) (hd:g.kind=2→0≤g.decl∧g.decl<(ds.length:Int)) (hrs:m.rs.length=ds.length) (hll:lk.length≤1000) (hol:m.s.ops.length≤2000) (hcl:m.s.cells.length≤2000) (hla:m.s.later.length≤2000) :
  Calls Tryz.prog 82 #[.pointer (some ⟨b,0,none⟩),n.val] w fun e w'=>
   e = .returned (.int .i64 ((wDelay (m.env ts ds pl lk) m.s f g l).2:Nat))∧Wr w' X b pl ds ns lk (m.st (wDelay (m.env ts ds pl lk) m.s f g l).1)∧Fr X w w':=by
 have HWR:=hide h
 have HXL:Hid (∀ k,X k→k<w.heap.size):=hide (by obtain ⟨v,hv⟩:=h;exact hv.xlt)
 obtain ⟨v,hv⟩:=h
 obtain ⟨hfl,hfe⟩:=List.getElem?_eq_some_iff.1 hf
 obtain ⟨hgl,hge⟩:=List.getElem?_eq_some_iff.1 hg
 obtain ⟨w1,hw1⟩:∃ w1,w1=w.alloc (ndObj n):=⟨_,rfl⟩
 obtain ⟨w2,hw2⟩:∃ w2,w2=(w1.alloc (ndObj f)).drew:=⟨_,rfl⟩
 obtain ⟨w3,hw3⟩:∃ w3,w3=(w2.alloc (ndObj g)).drew:=⟨_,rfl⟩
 have s1:w1.heap.size=w.heap.size+1:=by rw [hw1];simp
 have s2:w2.heap.size=w.heap.size+2:=by rw [hw2];show (w1.alloc (ndObj f)).heap.size=_;simp;omega
 have s3:w3.heap.size=w.heap.size+3:=by rw [hw3];show (w2.alloc (ndObj g)).heap.size=_;simp;omega
 have b1:Below w.heap.size w w1:=by rw [hw1];exact (Below.refl _ _).alloc (Nat.le_refl _) _
 have b12:Below w1.heap.size w1 w2:=by rw [hw2];exact ((Below.refl _ _).alloc (Nat.le_refl _) _).drew
 have b23:Below w2.heap.size w2 w3:=by rw [hw3];exact ((Below.refl _ _).alloc (Nat.le_refl _) _).drew
 have b2:Below w.heap.size w w2:=b1.trans (b12.mono b1.size)
 have b3:Below w.heap.size w w3:=b2.trans (b23.mono b2.size)
 have k1:w1.heap[w.heap.size]? = some (ndObj n):=by rw [hw1];exact heap_alloc_new w _
 have k2:w2.heap[w.heap.size+1]? = some (ndObj f):=by rw [hw2,← s1];exact heap_alloc_new w1 _
 have k3:w3.heap[w.heap.size+2]? = some (ndObj g):=by rw [hw3,← s2];exact heap_alloc_new w2 _
 have k12:w2.heap[w.heap.size]? = some (ndObj n):=(b12.block _ (by omega)).trans k1
 have k13:w3.heap[w.heap.size]? = some (ndObj n):=(b23.block _ (by omega)).trans k12
 have k23:w3.heap[w.heap.size+1]? = some (ndObj f):=(b23.block _ (by omega)).trans k2
 obtain ⟨a1,c1,e1,hs1⟩:=own_shape (hv.rows 1)
 obtain ⟨gn,rfl,_,hgn⟩:=hs1 (by show 0<ns.length;omega)
 have e1':v 1 = .slice (some ⟨gn,0,none⟩) ns.length c1:=e1
 have hown1:w.ownsRow 0 126 11 (.slice (some ⟨gn,0,none⟩) ns.length c1) ns.length (ndCells ns):=by rw [← e1'];exact hv.rows 1
 obtain ⟨f0,f1,f2,f3,f4,f5,f6,f7,f8,f9,f10⟩:=nd_later hown1 b1 hgn hfl f hfe.symm
 obtain ⟨g0,g1,g2,g3,g4,g5,g6,g7,g8,g9,g10⟩:=nd_later hown1 b2 hgn hgl g hge.symm
 have y1:w1.cell? ⟨b,1,none⟩=some (.slice (some ⟨gn,0,none⟩) ns.length c1):=by rw [← e1'];exact (hv.below b1).cell.2.1
 have y2:w2.cell? ⟨b,1,none⟩=some (.slice (some ⟨gn,0,none⟩) ns.length c1):=by rw [← e1'];exact (hv.below b2).cell.2.1
 have n6:w1.cell? ⟨w.heap.size,6,none⟩=some (.int .i64 (n.a:Int)):=(ndAt_of k1).c6
 have n7:w2.cell? ⟨w.heap.size,7,none⟩=some (.int .i64 (n.b:Int)):=(ndAt_of k12).c7
 have B1:∀ o,Below w.heap.size w (w1.alloc o):=fun o=>b1.alloc b1.size o
 have B2:∀ o,Below w.heap.size w (w2.alloc o):=fun o=>b2.alloc b2.size o
 have fa0:∀ o,(w1.alloc o).cell? ⟨gn,n.a * 11,none⟩=some (.int .i64 (f.kind:Int)):=fun o=>(nd_later hown1 (B1 o) hgn hfl f hfe.symm).1
 have fa1:∀ o,(w1.alloc o).cell? ⟨gn,n.a * 11+1,none⟩=some (.int .i64 (f.pos:Int)):=fun o=>(nd_later hown1 (B1 o) hgn hfl f hfe.symm).2.1
 have fa2:∀ o,(w1.alloc o).cell? ⟨gn,n.a * 11+2,none⟩=some (.int .i64 (f.value:Int)):=fun o=>(nd_later hown1 (B1 o) hgn hfl f hfe.symm).2.2.1
 have fa3:∀ o,(w1.alloc o).cell? ⟨gn,n.a * 11+3,none⟩=some (.string f.name):=fun o=>(nd_later hown1 (B1 o) hgn hfl f hfe.symm).2.2.2.1
 have fa4:∀ o,(w1.alloc o).cell? ⟨gn,n.a * 11+4,none⟩=some (.int .i64 f.decl):=fun o=>(nd_later hown1 (B1 o) hgn hfl f hfe.symm).2.2.2.2.1
 have fa5:∀ o,(w1.alloc o).cell? ⟨gn,n.a * 11+5,none⟩=some (.int .i64 (f.op:Int)):=fun o=>(nd_later hown1 (B1 o) hgn hfl f hfe.symm).2.2.2.2.2.1
 have fa6:∀ o,(w1.alloc o).cell? ⟨gn,n.a * 11+6,none⟩=some (.int .i64 (f.a:Int)):=fun o=>(nd_later hown1 (B1 o) hgn hfl f hfe.symm).2.2.2.2.2.2.1
 have fa7:∀ o,(w1.alloc o).cell? ⟨gn,n.a * 11+7,none⟩=some (.int .i64 (f.b:Int)):=fun o=>(nd_later hown1 (B1 o) hgn hfl f hfe.symm).2.2.2.2.2.2.2.1
 have fa8:∀ o,(w1.alloc o).cell? ⟨gn,n.a * 11+8,none⟩=some (.int .i64 (f.c:Int)):=fun o=>(nd_later hown1 (B1 o) hgn hfl f hfe.symm).2.2.2.2.2.2.2.2.1
 have fa9:∀ o,(w1.alloc o).cell? ⟨gn,n.a * 11+9,none⟩=some (.bool f.delayed):=fun o=>(nd_later hown1 (B1 o) hgn hfl f hfe.symm).2.2.2.2.2.2.2.2.2.1
 have fa10:∀ o,(w1.alloc o).cell? ⟨gn,n.a * 11+10,none⟩=some (.bool f.behind):=fun o=>(nd_later hown1 (B1 o) hgn hfl f hfe.symm).2.2.2.2.2.2.2.2.2.2
 have ga0:∀ o,(w2.alloc o).cell? ⟨gn,n.b * 11,none⟩=some (.int .i64 (g.kind:Int)):=fun o=>(nd_later hown1 (B2 o) hgn hgl g hge.symm).1
 have ga1:∀ o,(w2.alloc o).cell? ⟨gn,n.b * 11+1,none⟩=some (.int .i64 (g.pos:Int)):=fun o=>(nd_later hown1 (B2 o) hgn hgl g hge.symm).2.1
 have ga2:∀ o,(w2.alloc o).cell? ⟨gn,n.b * 11+2,none⟩=some (.int .i64 (g.value:Int)):=fun o=>(nd_later hown1 (B2 o) hgn hgl g hge.symm).2.2.1
 have ga3:∀ o,(w2.alloc o).cell? ⟨gn,n.b * 11+3,none⟩=some (.string g.name):=fun o=>(nd_later hown1 (B2 o) hgn hgl g hge.symm).2.2.2.1
 have ga4:∀ o,(w2.alloc o).cell? ⟨gn,n.b * 11+4,none⟩=some (.int .i64 g.decl):=fun o=>(nd_later hown1 (B2 o) hgn hgl g hge.symm).2.2.2.2.1
 have ga5:∀ o,(w2.alloc o).cell? ⟨gn,n.b * 11+5,none⟩=some (.int .i64 (g.op:Int)):=fun o=>(nd_later hown1 (B2 o) hgn hgl g hge.symm).2.2.2.2.2.1
 have ga6:∀ o,(w2.alloc o).cell? ⟨gn,n.b * 11+6,none⟩=some (.int .i64 (g.a:Int)):=fun o=>(nd_later hown1 (B2 o) hgn hgl g hge.symm).2.2.2.2.2.2.1
 have ga7:∀ o,(w2.alloc o).cell? ⟨gn,n.b * 11+7,none⟩=some (.int .i64 (g.b:Int)):=fun o=>(nd_later hown1 (B2 o) hgn hgl g hge.symm).2.2.2.2.2.2.2.1
 have ga8:∀ o,(w2.alloc o).cell? ⟨gn,n.b * 11+8,none⟩=some (.int .i64 (g.c:Int)):=fun o=>(nd_later hown1 (B2 o) hgn hgl g hge.symm).2.2.2.2.2.2.2.2.1
 have ga9:∀ o,(w2.alloc o).cell? ⟨gn,n.b * 11+9,none⟩=some (.bool g.delayed):=fun o=>(nd_later hown1 (B2 o) hgn hgl g hge.symm).2.2.2.2.2.2.2.2.2.1
 have ga10:∀ o,(w2.alloc o).cell? ⟨gn,n.b * 11+10,none⟩=some (.bool g.behind):=fun o=>(nd_later hown1 (B2 o) hgn hgl g hge.symm).2.2.2.2.2.2.2.2.2.2
 have y1a:∀ o,(w1.alloc o).cell? ⟨b,1,none⟩=some (.slice (some ⟨gn,0,none⟩) ns.length c1):=fun o=>by rw [← e1'];exact (hv.below (B1 o)).cell.2.1
 have y2a:∀ o,(w2.alloc o).cell? ⟨b,1,none⟩=some (.slice (some ⟨gn,0,none⟩) ns.length c1):=fun o=>by rw [← e1'];exact (hv.below (B2 o)).cell.2.1
 have n6a:∀ o,(w1.alloc o).cell? ⟨w.heap.size,6,none⟩=some (.int .i64 (n.a:Int)):=fun o=>(ndAt_of ((Below.heap_alloc w1 o _ (by omega)).trans k1)).c6
 have n7a:∀ o,(w2.alloc o).cell? ⟨w.heap.size,7,none⟩=some (.int .i64 (n.b:Int)):=fun o=>(ndAt_of ((Below.heap_alloc w2 o _ (by omega)).trans k12)).c7
 have N3:=hide (ndAt_of k3)
 have NG:=hide k3
 have NF:=hide k23
 have NN:=hide k13
 have i1:(0:Int)≤(n.a:Int):=by omega
 have i2:(n.a:Int)<(ns.length:Int):=by omega
 have i3:(0:Int)≤(n.b:Int):=by omega
 have i4:(n.b:Int)<(ns.length:Int):=by omega
 have HLK:=hide (wlink_any w3 X b pl ds ns lk m (HWR.out.below b3) ts m.rs g hd hll)
 have HB3:=hide b3
 have HS3:=hide s3
 have HS1:=hide s1
 have HS2:=hide s2
 have HL:=hide hl
 clear hv hf hg hfe hge e1 e1' hs1 hown1 b1 b12 b23 b2 b3 k1 k2 k3 k12 k13 k23 s1 s2 s3 hl B1 B2
 obtain ⟨p0,p1,p2,p3,p4,p5,p6,p7,p8,p9,p10⟩:=N3.out
 obtain ⟨i0,hi0,hz0,hz1,hz2⟩:=info_parts Tryz.infoIntO
 unfold ndObj at hw1 hw2 hw3
 go_enter Tryz.func82,Tryz.ntmps82
 go_wp2_with fail
 rw [← hw1]
 clear hw1
 go_big_region
 rw [← hw2]
 clear hw2 y1 n6 f0 f1 f2 f3 f4 f5 f6 f7 f8 f9 f10 fa0 fa1 fa2 fa3 fa4 fa5 fa6 fa7 fa8 fa9 fa10 y1a n6a
 go_wp2_with fail
 go_big_region
 rw [← hw3]
 clear hw3 y2 n7 g0 g1 g2 g3 g4 g5 g6 g7 g8 g9 g10 ga0 ga1 ga2 ga3 ga4 ga5 ga6 ga7 ga8 ga9 ga10 y2a n7a
 rw [HS1.out,HS2.out]
 go_wp2_with fail
 refine HLK.out.mono ?_
 rintro e w4 ⟨rfl,hb4⟩
 have h3:=HS3.out
 have HB4:=hide (HB3.out.trans (hb4.mono HB3.out.size))
 have HW4:=hide (HWR.out.below HB4.out)
 have HNN:=hide ((hb4.block w.heap.size (by omega)).trans NN.out)
 have HNF:=hide ((hb4.block (w.heap.size+1) (by omega)).trans NF.out)
 have HNG:=hide ((hb4.block (w.heap.size+2) (by omega)).trans NG.out)
 have HS4:Hid (w.heap.size+2<w4.heap.size):=hide (by have:=hb4.size;omega)
 clear p0 p1 p2 p3 p4 p5 p6 p7 p8 p9 p10 hb4 HLK NF NN NG h3 HB3 HS1 HS2 HS3 N3
 by_cases hlt:(wLink ⟨ts,ds,pl,lk,m.rs⟩ g).2=true
 ·have HF:Hid (wDelay (m.env ts ds pl lk) m.s f g l=wHand (m.env ts ds pl lk) m.s f g):=hide (if_pos hlt)
  obtain ⟨dk1,dk2⟩:=hd (link_true hlt).1
  have HH:=hide (whand_any w4 X b pl ds ns lk m HW4.out ts f g dk1 dk2 hrs hll hol)
  rw [hlt]
  obtain ⟨p0,p1,p2,p3,p4,p5,p6,p7,p8,p9,p10⟩:=ndAt_of HNF.out
  obtain ⟨r0,r1,r2,r3,r4,r5,r6,r7,r8,r9,r10⟩:=ndAt_of HNG.out
  clear hlt dk1 dk2
  go_wp2_with fail
  refine HH.out.mono ?_
  rintro e w5 ⟨rfl,hw5,hf5⟩
  go_wp2
  go_ret
  exact ⟨by rw [HF.out];rfl,by rw [HF.out];exact hw5,Fr.bel HB4.out HXL.out hf5⟩
 ·have hlf:(wLink ⟨ts,ds,pl,lk,m.rs⟩ g).2=false:=by simpa using hlt
  have HF:Hid (wDelay (m.env ts ds pl lk) m.s f g l=wCell m.s f l):=hide (if_neg hlt)
  rw [hlf]
  clear hlt hlf
  -- what is boxed stays as it is
  have hW4:=HWR.out.box HB4.out
  obtain ⟨S,hS⟩:∃ S,S=w4.heap.size:=⟨_,rfl⟩
  rw [← hS] at hW4
  have HS:=hide hS
  obtain ⟨v,hv⟩:=hW4
  obtain ⟨a5,c5,e5,_⟩:=own_shape (hv.rows 5)
  have e5':v 5 = .slice a5 m.s.cells.length c5:=e5
  have hown:w4.ownsRow 0 3 1 (.slice a5 m.s.cells.length c5) m.s.cells.length (iCells m.s.cells):=by rw [← e5'];exact hv.rows 5
  have y5:w4.cell? ⟨b,5,none⟩=some (.slice a5 m.s.cells.length c5):=by rw [← e5'];exact hv.cell.2.2.2.2.2.1
  have fz5:=hv.froz 5
  have lb:=hv.lt
  have fa:∀ o,(w4.alloc o).frozen? ⟨b,5,none⟩=false:=fun o=>by rw [World.frozen?_alloc_past _ _ _ lb];exact fz5
  have ca:∀ o,(w4.alloc o).cell? ⟨b,5,none⟩=some (.slice a5 m.s.cells.length c5):=fun o=>by rw [World.cell?_alloc_past _ _ _ lb];exact y5
  have nbv:(Value.slice a5 m.s.cells.length c5).ownBlock≠some b:=by rw [← e5'];exact hv.nb 5
  have x2:=(ndAt_of HNF.out).c2
  have HV:=hide hv
  have HE5:=hide e5'
  have HRA:=hide (rows_cell ds ns lk m ((f.value:Nat):Int))
  clear hv e5 e5' hS
  go_wp2_with fail
  go_region_law ((refine step_append_lies _ (by rfl) _ _ _ (by rfl) 0 3 i0 _ 1 8 Tryz.underlying34 hi0 hz0 hz1 hz2 rfl (by omega) (.slice a5 m.s.cells.length c5) m.s.cells.length (iCells m.s.cells) (by rfl) ((hown.alloc _).drew) ⟨w4.heap.size,0,none⟩ 1 1 [.int .i64 ((f.value:Nat):Int)] (by rfl) (by rfl) (World.news_of_block (cs:=#[.int .i64 ((f.value:Nat):Int)]) (t:=3) (fr:=(0,0)) (heap_alloc_new w4 _)) (by simp [Value.oneCell']) (by omega) (by unfold maxLen;omega) (by omega) (by simp) (w4.heap.size+1) (by simp) ?_;intro gg cap2 w5 hown3 hgrow hat hlt3;have k4:=(hgrow.cell_far ⟨b,5,none⟩ (by simp;omega) (Ne.symm nbv)).trans (ca _);have e4:=(hgrow.frozen_far ⟨b,5,none⟩ (by simp;omega) (Ne.symm nbv)).trans (fa _)))
  all_goals
   have hPa:=HV.out.below (((Below.refl w4.heap.size w4).alloc (Nat.le_refl _) (.cells #[.int .i64 ((f.value:Nat):Int)] 3)).drew)
   have hfin:=hPa.push 5 (by omega) (g:=gg) (cap:=cap2) (len:=m.s.cells.length+1) (r:=⟨3,1,m.s.cells.length+1,iCells (m.s.cells ++ [((f.value:Nat):Int)])⟩) (by rw [HE5.out];exact hgrow) (by rw [iCells_snocW];exact hown3) rfl (by rw [HE5.out];exact hat_le hat (by simp))
   obtain ⟨w6,hw6⟩:∃ w6,w6=w5.setCell ⟨b,5,none⟩ (.slice (some ⟨gg,0,none⟩) (m.s.cells.length+1) cap2):=⟨_,rfl⟩
   rw [← hw6] at hfin ⊢
   have hF6:Fr (Xn X w.heap.size S) w4 w6:=Fr.trans (Fr.of_below (((Below.refl w4.heap.size w4).alloc (Nat.le_refl _) (.cells #[.int .i64 ((f.value:Nat):Int)] 3)).drew) HV.out.xlt) hfin.2
   have hW6:Wr w6 (Xn X w.heap.size S) b pl ds ns lk (m.cell ((f.value:Nat):Int)):=⟨_,hfin.1.cast HRA.out⟩
   have HF6:=hide hF6
   have HNN6:=hide ((hF6.block w.heap.size (.inr (by have:=HS4.out;have:=HS.out;omega))).trans HNN.out)
   clear hown3 hgrow hat hPa hfin hown y5 fz5 k4 e4 hw6 x2 fa ca nbv hlt3 HV HE5 HRA hF6
   obtain ⟨v,hv⟩:=hW6
   obtain ⟨a9,c9,e9,_⟩:=own_shape (hv.rows 9)
   have e9':v 9 = .slice a9 (m.s.later.map Lt.o).length c9:=e9
   have hown:w6.ownsRow 0 3 1 (.slice a9 (m.s.later.map Lt.o).length c9) (m.s.later.map Lt.o).length (tCells (m.s.later.map Lt.o)):=by rw [← e9'];exact hv.rows 9
   have y9:w6.cell? ⟨b,9,none⟩=some (.slice a9 (m.s.later.map Lt.o).length c9):=by rw [← e9'];exact hv.cell.2.2.2.2.2.2.2.2.2
   have fz9:=hv.froz 9
   have lb6:=hv.lt
   have fa:∀ o,(w6.alloc o).frozen? ⟨b,9,none⟩=false:=fun o=>by rw [World.frozen?_alloc_past _ _ _ lb6];exact fz9
   have ca:∀ o,(w6.alloc o).cell? ⟨b,9,none⟩=some (.slice a9 (m.s.later.map Lt.o).length c9):=fun o=>by rw [World.cell?_alloc_past _ _ _ lb6];exact y9
   have nbv:(Value.slice a9 (m.s.later.map Lt.o).length c9).ownBlock≠some b:=by rw [← e9'];exact hv.nb 9
   have x7:=(ndAt_of HNN6.out).c7
   have hlm:(m.s.later.map Lt.o).length=m.s.later.length:=List.length_map _
   have HLM:=hide hlm
   have hla':(m.s.later.map Lt.o).length≤2000:=by omega
   have HV:=hide hv
   have HE9:=hide e9'
   have HRA:=hide (rows_lat ds ns lk (m.cell ((f.value:Nat):Int)) l)
   generalize (m.s.later.map Lt.o).length=ln at *
   clear hv e9 e9' hlm
   go_wp2_with fail
   go_region_law ((refine step_append_lies _ (by rfl) _ _ _ (by rfl) 0 3 i0 _ 1 8 Tryz.underlying34 hi0 hz0 hz1 hz2 rfl (by omega) (.slice a9 ln c9) ln (tCells (m.s.later.map Lt.o)) (by rfl) ((hown.alloc _).drew) ⟨w6.heap.size,0,none⟩ 1 1 [.int .i64 ((n.b:Nat):Int)] (by rfl) (by rfl) (World.news_of_block (cs:=#[.int .i64 ((n.b:Nat):Int)]) (t:=3) (fr:=(0,0)) (heap_alloc_new w6 _)) (by simp [Value.oneCell']) (by omega) (by unfold maxLen;omega) (by omega) (by simp) (w6.heap.size+1) (by simp) ?_;intro gg9 cap9 w7 hown3 hgrow hat hlt3;have k4:=(hgrow.cell_far ⟨b,9,none⟩ (by simp;omega) (Ne.symm nbv)).trans (ca _);have e4:=(hgrow.frozen_far ⟨b,9,none⟩ (by simp;omega) (Ne.symm nbv)).trans (fa _)))
   all_goals
    have hPa:=HV.out.below (((Below.refl w6.heap.size w6).alloc (Nat.le_refl _) (.cells #[.int .i64 ((n.b:Nat):Int)] 3)).drew)
    have hfin:=hPa.push 9 (by omega) (g:=gg9) (cap:=cap9) (len:=ln+1) (r:=⟨3,1,m.s.later.length+1,tCells (m.s.later.map Lt.o ++ [l.o])⟩) (by rw [HE9.out];exact hgrow) (by rw [tCells_snoc,HL.out];exact hown3) (by have:=HLM.out;show m.s.later.length+1=ln+1;omega) (by rw [HE9.out];exact hat_le hat (by simp))
    obtain ⟨w8,hw8⟩:∃ w8,w8=w7.setCell ⟨b,9,none⟩ (.slice (some ⟨gg9,0,none⟩) (ln+1) cap9):=⟨_,rfl⟩
    rw [← hw8] at hfin ⊢
    have hF8:Fr (Xn X w.heap.size S) w6 w8:=Fr.trans (Fr.of_below (((Below.refl w6.heap.size w6).alloc (Nat.le_refl _) (.cells #[.int .i64 ((n.b:Nat):Int)] 3)).drew) HV.out.xlt) hfin.2
    have hW8:Wr w8 (Xn X w.heap.size S) b pl ds ns lk ((m.cell ((f.value:Nat):Int)).lat l):=⟨_,hfin.1.cast HRA.out⟩
    have HF8:=hide (HF6.out.trans hF8)
    have HAD:=hide (wadd_any w8 _ b pl ds ns lk _ hW8 ⟨3,(m.s.cells.length:Nat),0,0⟩ (by show m.s.ops.length≤3000;omega))
    clear hown3 hgrow hat hPa hfin hown y9 fz9 k4 e4 hw8 x7 fa ca nbv hlt3 HV HE9 HRA hF8 hW8
    go_wp2_with fail
    refine HAD.out.mono ?_
    rintro e w9 ⟨rfl,hw9,hf9⟩
    go_wp2
    go_ret
    exact ⟨by rw [HF.out];rfl,by rw [HF.out];exact hw9.less (fun _ hk=>.inl hk),Fr.bel HB4.out HXL.out (HF8.out.trans hf9).xn⟩
end Go.Proofs.YtmndgoapkmhglaaGreat
