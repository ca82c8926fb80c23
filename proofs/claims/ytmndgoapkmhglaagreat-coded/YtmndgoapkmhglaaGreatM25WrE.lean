import Derived.Test.YtmndgoapkmhglaaGreatM23WrC
namespace Go.Proofs.YtmndgoapkmhglaaGreat
open Go.RowKit
attribute [local go_sem ↓] Go.wp_at_zero Go.wp_at_succ
def WM.st (m:WM) (s:WSt):WM:={ m with s:=s }
def WM.env (m:WM) (ts:List Tk) (ds:List Dc) (pl:Int) (lk:List Rt):WEnv:=⟨ts,ds,pl,lk,m.rs⟩
set_option maxHeartbeats 4000000 in
set_option maxRecDepth 100000 in
theorem wname_any (w:World) (X:Nat→Prop) (b:Nat) (pl:Int) (ds:List Dc) (ns:List Nd) (lk:List Rt) (m:WM) (h:Wr w X b pl ds ns lk m) (ts:List Tk) (n:Nd) (hd1:0≤n.decl) (hd2:n.decl<(ds.length:Int)) (hrs:m.rs.length=ds.length) (hll:lk.length≤1000) (hl:m.s.ops.length≤3000) :
  Calls Tryz.prog 80 #[.pointer (some ⟨b,0,none⟩),n.val] w fun e w'=>
   e = .returned (.int .i64 ((wName (m.env ts ds pl lk) m.s n).2:Nat))∧Wr w' X b pl ds ns lk (m.st (wName (m.env ts ds pl lk) m.s n).1)∧Fr X w w':=by
 have HWR:=hide h
 obtain ⟨v,hv⟩:=h
 obtain ⟨w1,hw1⟩:∃ w1,w1=w.alloc (.cells #[.int .i64 (n.kind:Int),.int .i64 (n.pos:Int),.int .i64 (n.value:Int),.string n.name,.int .i64 n.decl,.int .i64 (n.op:Int),.int .i64 (n.a:Int),.int .i64 (n.b:Int),.int .i64 (n.c:Int),.bool n.delayed,.bool n.behind] 126):=⟨_,rfl⟩
 have hB1:Below w.heap.size w w1:=by rw [hw1];exact (Below.refl _ _).alloc (Nat.le_refl _) _
 have hS1:w.heap.size<w1.heap.size:=by rw [hw1];simp
 have hblk:w1.heap[w.heap.size]? = some (.cells #[.int .i64 (n.kind:Int),.int .i64 (n.pos:Int),.int .i64 (n.value:Int),.string n.name,.int .i64 n.decl,.int .i64 (n.op:Int),.int .i64 (n.a:Int),.int .i64 (n.b:Int),.int .i64 (n.c:Int),.bool n.delayed,.bool n.behind] 126):=by rw [hw1];exact heap_alloc_new w _
 have hv1:=hv.below hB1
 have HB1:=hide hB1
 have HVW:Hid (∀ W,Below w1.heap.size w1 W→WrV W X b pl (wRow ds ns lk m) v):=hide (fun W hW=>hv1.below hW)
 obtain ⟨db,hdb⟩:∃ db:Nat,n.decl=(db:Int):=⟨n.decl.toNat,by omega⟩
 have hdl:db<ds.length:=by omega
 have HND:Hid (∀ W,Below w1.heap.size w1 W→W.heap[w.heap.size]? = some (.cells #[.int .i64 (n.kind:Int),.int .i64 (n.pos:Int),.int .i64 (n.value:Int),.string n.name,.int .i64 (db:Int),.int .i64 (n.op:Int),.int .i64 (n.a:Int),.int .i64 (n.b:Int),.int .i64 (n.c:Int),.bool n.delayed,.bool n.behind] 126)):=hide (fun W hW=>by rw [← hdb];exact (hW.block w.heap.size hS1).trans hblk)
 obtain ⟨a0,c0,e0,hs0⟩:=own_shape (hv1.rows 0)
 obtain ⟨gd,rfl,_,hgd⟩:=hs0 (by show 0<ds.length;omega)
 have e0':v 0 = .slice (some ⟨gd,0,none⟩) ds.length c0:=e0
 have hown0:w1.ownsRow 0 91 7 (.slice (some ⟨gd,0,none⟩) ds.length c0) ds.length (dcCells ds):=by rw [← e0'];exact hv1.rows 0
 obtain ⟨a8,c8,e8,hs8⟩:=own_shape (hv1.rows 8)
 obtain ⟨g8,rfl,_,hg8⟩:=hs8 (by show 0<m.rs.length;omega)
 have e8':v 8 = .slice (some ⟨g8,0,none⟩) m.rs.length c8:=e8
 have hown8:w1.ownsRow 0 3 1 (.slice (some ⟨g8,0,none⟩) m.rs.length c8) m.rs.length (tCells m.rs):=by rw [← e8'];exact hv1.rows 8
 obtain ⟨d,hdd⟩:∃ d,d=ds[db]'hdl:=⟨_,rfl⟩
 have HDC:Hid (∀ W,Below w1.heap.size w1 W→W.cell? ⟨b,0,none⟩=some (.slice (some ⟨gd,0,none⟩) ds.length c0)∧W.cell? ⟨b,2,none⟩=some (.int .i64 pl)∧W.cell? ⟨b,8,none⟩=some (.slice (some ⟨g8,0,none⟩) m.rs.length c8)∧W.cell? ⟨g8,db,none⟩=some (.int .i64 ((m.rs.getD db 0:Nat):Int))):=hide (fun W hW=>by
  have hc:=(HVW.out W hW).cell
  refine ⟨by rw [← e0'];exact hc.1,hc.2.2.1,by rw [← e8'];exact hc.2.2.2.2.2.2.2.2.1,?_⟩
  rw [hW.cell (p:=⟨g8,db,none⟩) hg8,hown8.cellAt db (by omega)]
  unfold tCells
  rw [List.getElem?_map,List.getElem?_eq_getElem (by omega),List.getD_eq_getElem?_getD,List.getElem?_eq_getElem (by omega)];rfl)
 have HDL:Hid (∀ W,Below w1.heap.size w1 W→_):=hide (fun W hW=>dc_later hown0 hW hgd hdl d hdd)
 have hbx:w1.cell? ⟨w.heap.size,4,none⟩=some (.int .i64 (db:Int)):=by rw [cell_of_row w1 _ 4 _ _ _ (HND.out w1 (Below.refl _ _))];rfl
 obtain ⟨y0,y2,y8,z8⟩:=HDC.out w1 (Below.refl _ _)
 obtain ⟨t0,t1,t2,t3,t4,t5,t6⟩:=HDL.out w1 (Below.refl _ _)
 have i1:(0:Int)≤(db:Int):=by omega
 have i2:(db:Int)<(ds.length:Int):=by omega
 have i3:(db:Int)<(m.rs.length:Int):=by omega
 have hkind:kindAt ds n.decl=d.kind:=by unfold kindAt;rw [hdb,Int.toNat_natCast,List.getD_eq_getElem?_getD,List.getElem?_eq_getElem hdl,hdd];rfl
 have hnum:numAt ds n.decl=d.number:=by unfold numAt;rw [hdb,Int.toNat_natCast,List.getD_eq_getElem?_getD,List.getElem?_eq_getElem hdl,hdd];rfl
 have hpla:plAt ds n.decl=d.place:=by unfold plAt;rw [hdb,Int.toNat_natCast,List.getD_eq_getElem?_getD,List.getElem?_eq_getElem hdl,hdd];rfl
 have HNM:Hid (wName (m.env ts ds pl lk) m.s n=if d.kind=0 then wAdd m.s ⟨1,(d.number:Nat),0,0⟩ else if ((d.place:Nat):Int)=pl then (m.s,m.rs.getD db 0) else wAdd m.s ⟨2,((wLink (m.env ts ds pl lk) n).1:Nat),0,0⟩):=hide (by
  unfold wName WM.env
  simp only
  rw [hkind,hnum,hpla,hdb,Int.toNat_natCast])
 have HA:Hid (∀ o,Below w1.heap.size w1 (w1.alloc o)):=hide (fun o=>(Below.refl _ _).alloc (Nat.le_refl _) o)
 have HWA:Hid (∀ o,Wr (w1.alloc o).drew X b pl ds ns lk m∧Fr X w (w1.alloc o).drew):=hide (fun o=>by
  have hb:Below w.heap.size w (w1.alloc o).drew:=(HB1.out.trans ((HA.out o).mono HB1.out.size)).drew
  exact ⟨HWR.out.below hb,HWR.out.frb hb⟩)
 have HLK:=hide (fun W (hW:Wr W X b pl ds ns lk m)=>wlink_any W X b pl ds ns lk m hW ts m.rs n (fun _=>⟨hd1,hd2⟩) hll)
 have y0a:∀ o,(w1.alloc o).cell? ⟨b,0,none⟩=some (.slice (some ⟨gd,0,none⟩) ds.length c0):=fun o=>(HDC.out _ (HA.out o)).1
 have y2a:∀ o,(w1.alloc o).cell? ⟨b,2,none⟩=some (.int .i64 pl):=fun o=>(HDC.out _ (HA.out o)).2.1
 have y8a:∀ o,(w1.alloc o).cell? ⟨b,8,none⟩=some (.slice (some ⟨g8,0,none⟩) m.rs.length c8):=fun o=>(HDC.out _ (HA.out o)).2.2.1
 have z8a:∀ o,(w1.alloc o).cell? ⟨g8,db,none⟩=some (.int .i64 ((m.rs.getD db 0:Nat):Int)):=fun o=>(HDC.out _ (HA.out o)).2.2.2
 have n4a:∀ o,(w1.alloc o).cell? ⟨w.heap.size,4,none⟩=some (.int .i64 (db:Int)):=fun o=>by rw [cell_of_row _ _ 4 _ _ _ (HND.out _ (HA.out o))];rfl
 have n0a:∀ o,(w1.alloc o).heap[w.heap.size]? = _:=fun o=>HND.out _ (HA.out o)
 have HN0:=hide n0a
 have HDB:=hide hdb
 have hdb':=hide hdb
 clear hv hv1 hblk hB1 e0 e0' hs0 hown0 e8 e8' hs8 hown8 hkind hnum hpla hdd hd1 hd2 hdb n0a
 obtain ⟨rv,hrv⟩:∃ rv,rv=m.rs.getD db 0:=⟨_,rfl⟩
 simp only [← hrv] at z8 z8a HNM
 clear hrv HDC
 by_cases hk0:d.kind=0
 ·have q1:((d.kind:Int) == 0)=true:=by rw [hk0];rfl
  have HF:Hid (wName (m.env ts ds pl lk) m.s n=wAdd m.s ⟨1,(d.number:Nat),0,0⟩):=hide (by rw [HNM.out,if_pos hk0])
  have HAD:=hide (fun o=>wadd_any _ X b pl ds ns lk m (HWA.out o).1 ⟨1,(d.number:Nat),0,0⟩ hl)
  clear hk0
  go_enter Tryz.func80,Tryz.ntmps80
  go_wp2_with fail
  rw [hdb'.out] at hw1 ⊢
  rw [← hw1]
  clear hw1
  go_big_region
  go_wp2_with fail
  refine (HAD.out _).mono ?_
  rintro e w2 ⟨rfl,hw2,hf2⟩
  go_wp2
  go_ret
  exact ⟨by rw [HF.out];rfl,by rw [HF.out];exact hw2,(HWA.out _).2.trans hf2⟩
 ·have q1:((d.kind:Int) == 0)=false:=by rw [beq_eq_false_iff_ne];omega
  by_cases hp:((d.place:Nat):Int)=pl
  ·have q2:((d.place:Int) == pl)=true:=by rw [hp];simp
   have HF:Hid (wName (m.env ts ds pl lk) m.s n=(m.s,rv)):=hide (by rw [HNM.out,if_neg hk0,if_pos hp])
   clear hk0 hp
   go_enter Tryz.func80,Tryz.ntmps80
   go_wp2_with fail
   rw [hdb'.out] at hw1 ⊢
   rw [← hw1]
   clear hw1
   go_big_region
   go_wp2_with fail
   go_big_region
   go_wp2_with fail
   go_big_region
   go_wp2
   go_ret
   refine ⟨by rw [HF.out];rfl,?_,?_⟩
   ·rw [HF.out];first | exact (HWA.out _).1 | exact (HWA.out _).1.below ((Below.refl _ _).drew) | exact (HWA.out _).1.below ((Below.refl _ _).drew.drew)
   ·first | exact (HWA.out _).2 | exact (HWA.out _).2.trans ((HWA.out _).1.frb ((Below.refl _ _).drew)) | exact (HWA.out _).2.trans ((HWA.out _).1.frb ((Below.refl _ _).drew.drew))
  ·have q2:((d.place:Int) == pl)=false:=by rw [beq_eq_false_iff_ne];exact hp
   have HF:Hid (wName (m.env ts ds pl lk) m.s n=wAdd m.s ⟨2,((wLink (m.env ts ds pl lk) n).1:Nat),0,0⟩):=hide (by rw [HNM.out,if_neg hk0,if_neg hp])
   have HAD:=hide (fun W (hW:Wr W X b pl ds ns lk m) z=>wadd_any W X b pl ds ns lk m hW ⟨2,z,0,0⟩ hl)
   have m0:∀ o,(w1.alloc o).cell? ⟨w.heap.size,0,none⟩=some (.int .i64 (n.kind:Int)):=fun o=>by rw [cell_of_row _ _ 0 _ _ _ (HN0.out o)];rfl
   have m1:∀ o,(w1.alloc o).cell? ⟨w.heap.size,1,none⟩=some (.int .i64 (n.pos:Int)):=fun o=>by rw [cell_of_row _ _ 1 _ _ _ (HN0.out o)];rfl
   have m2:∀ o,(w1.alloc o).cell? ⟨w.heap.size,2,none⟩=some (.int .i64 (n.value:Int)):=fun o=>by rw [cell_of_row _ _ 2 _ _ _ (HN0.out o)];rfl
   have m3:∀ o,(w1.alloc o).cell? ⟨w.heap.size,3,none⟩=some (.string n.name):=fun o=>by rw [cell_of_row _ _ 3 _ _ _ (HN0.out o)];rfl
   have m5:∀ o,(w1.alloc o).cell? ⟨w.heap.size,5,none⟩=some (.int .i64 (n.op:Int)):=fun o=>by rw [cell_of_row _ _ 5 _ _ _ (HN0.out o)];rfl
   have m6:∀ o,(w1.alloc o).cell? ⟨w.heap.size,6,none⟩=some (.int .i64 (n.a:Int)):=fun o=>by rw [cell_of_row _ _ 6 _ _ _ (HN0.out o)];rfl
   have m7:∀ o,(w1.alloc o).cell? ⟨w.heap.size,7,none⟩=some (.int .i64 (n.b:Int)):=fun o=>by rw [cell_of_row _ _ 7 _ _ _ (HN0.out o)];rfl
   have m8:∀ o,(w1.alloc o).cell? ⟨w.heap.size,8,none⟩=some (.int .i64 (n.c:Int)):=fun o=>by rw [cell_of_row _ _ 8 _ _ _ (HN0.out o)];rfl
   have m9:∀ o,(w1.alloc o).cell? ⟨w.heap.size,9,none⟩=some (.bool n.delayed):=fun o=>by rw [cell_of_row _ _ 9 _ _ _ (HN0.out o)];rfl
   have m10:∀ o,(w1.alloc o).cell? ⟨w.heap.size,10,none⟩=some (.bool n.behind):=fun o=>by rw [cell_of_row _ _ 10 _ _ _ (HN0.out o)];rfl
   simp only [Nd.val] at HLK
   rw [hdb'.out] at HLK
   clear hk0 hp
   go_enter Tryz.func80,Tryz.ntmps80
   go_wp2_with fail
   rw [hdb'.out] at hw1 ⊢
   rw [← hw1]
   clear hw1
   go_big_region
   go_wp2_with fail
   go_big_region
   go_wp2_with fail
   refine (HLK.out _ ?hw).mono ?_
   case hw=>first | exact (HWA.out _).1 | exact (HWA.out _).1.below ((Below.refl _ _).drew)
   rintro e w2 ⟨rfl,hb2⟩
   have hW2:Wr w2 X b pl ds ns lk m∧Fr X w w2:=by
    first
     | exact ⟨(HWA.out _).1.below hb2,(HWA.out _).2.trans ((HWA.out _).1.frb hb2)⟩
     | exact ⟨(HWA.out _).1.below ((Below.refl _ _).drew.trans hb2),(HWA.out _).2.trans ((HWA.out _).1.frb ((Below.refl _ _).drew.trans hb2))⟩
   have HW2:=hide hW2
   clear hb2 hW2
   go_wp2_with fail
   refine (HAD.out _ HW2.out.1 _).mono ?_
   rintro e w3 ⟨rfl,hw3,hf3⟩
   go_wp2
   go_ret
   exact ⟨by rw [HF.out];rfl,by rw [HF.out];exact hw3,HW2.out.2.trans hf3⟩
theorem Wr.less {w:World}{X Y:Nat→Prop}{b:Nat}{pl:Int}{ds:List Dc}{ns:List Nd}{lk:List Rt}{m:WM} (h:Wr w Y b pl ds ns lk m) (hX:∀ k,X k→Y k):Wr w X b pl ds ns lk m:=by
 obtain ⟨v,hv⟩:=h
 exact ⟨v,hv.more (fun k hk=>hv.xlt k (hX k hk)) (fun hk=>hv.xb (hX b hk)) (fun i g hi hg hk=>hv.xv i g hi hg (hX g hk))⟩
def Xn (X:Nat→Prop) (a c:Nat) (k:Nat):Prop:=X k∨(a≤k∧k<c)
theorem Wr.box {w:World}{X:Nat→Prop}{b:Nat}{pl:Int}{ds:List Dc}{ns:List Nd}{lk:List Rt}{m:WM} (h:Wr w X b pl ds ns lk m) {w':World} (hb:Below w.heap.size w w'):Wr w' (Xn X w.heap.size w'.heap.size) b pl ds ns lk m:=by
 obtain ⟨v,hv⟩:=h
 have hv':=hv.below hb
 refine ⟨v,hv'.more ?_ ?_ ?_⟩
 ·rintro k (hk | hk)
  ·exact hv'.xlt k hk
  ·exact hk.2
 ·rintro (hk | hk)
  ·exact hv'.xb hk
  ·have:=hv.lt;omega
 ·rintro i g hi hg (hk | hk)
  ·exact hv'.xv i g hi hg hk
  ·have:=((hv.rows i).lt g hg).2;omega
theorem add_len (m:WM) (o:OpF):(m.add o).s.ops.length=m.s.ops.length+1:=by simp [WM.add,wAdd]
theorem Fr.xn {X:Nat→Prop}{c d:Nat}{a b:World} (h:Fr (Xn X c d) a b):Fr X a b:=h.mono (fun _ hk=>.inl hk)
theorem Fr.bel {X:Nat→Prop}{w w1 w2:World} (h:Below w.heap.size w w1) (hX:∀ k,X k→k<w.heap.size) (k:Fr X w1 w2):Fr X w w2:=(Fr.of_below h hX).trans k
def ndObj (n:Nd):Obj:=.cells #[.int .i64 (n.kind:Int),.int .i64 (n.pos:Int),.int .i64 (n.value:Int),.string n.name,.int .i64 n.decl,.int .i64 (n.op:Int),.int .i64 (n.a:Int),.int .i64 (n.b:Int),.int .i64 (n.c:Int),.bool n.delayed,.bool n.behind] 126
structure NdAt (w:World) (N:Nat) (n:Nd):Prop where
 c0:w.cell? ⟨N,0,none⟩=some (.int .i64 (n.kind:Int))
 c1:w.cell? ⟨N,1,none⟩=some (.int .i64 (n.pos:Int))
 c2:w.cell? ⟨N,2,none⟩=some (.int .i64 (n.value:Int))
 c3:w.cell? ⟨N,3,none⟩=some (.string n.name)
 c4:w.cell? ⟨N,4,none⟩=some (.int .i64 n.decl)
 c5:w.cell? ⟨N,5,none⟩=some (.int .i64 (n.op:Int))
 c6:w.cell? ⟨N,6,none⟩=some (.int .i64 (n.a:Int))
 c7:w.cell? ⟨N,7,none⟩=some (.int .i64 (n.b:Int))
 c8:w.cell? ⟨N,8,none⟩=some (.int .i64 (n.c:Int))
 c9:w.cell? ⟨N,9,none⟩=some (.bool n.delayed)
 c10:w.cell? ⟨N,10,none⟩=some (.bool n.behind)
theorem ndAt_of {w:World}{N:Nat}{n:Nd} (h:w.heap[N]? = some (ndObj n)):NdAt w N n:=by
 unfold ndObj at h
 exact ⟨by rw [cell_of_row w N 0 _ _ _ h];rfl,by rw [cell_of_row w N 1 _ _ _ h];rfl,by rw [cell_of_row w N 2 _ _ _ h];rfl,by rw [cell_of_row w N 3 _ _ _ h];rfl,by rw [cell_of_row w N 4 _ _ _ h];rfl,by rw [cell_of_row w N 5 _ _ _ h];rfl,by rw [cell_of_row w N 6 _ _ _ h];rfl,by rw [cell_of_row w N 7 _ _ _ h];rfl,by rw [cell_of_row w N 8 _ _ _ h];rfl,by rw [cell_of_row w N 9 _ _ _ h];rfl,by rw [cell_of_row w N 10 _ _ _ h];rfl⟩
set_option maxHeartbeats 4000000 in
set_option maxRecDepth 100000 in
theorem whand_any (w:World) (X:Nat→Prop) (b:Nat) (pl:Int) (ds:List Dc) (ns:List Nd) (lk:List Rt) (m:WM) (h:Wr w X b pl ds ns lk m) (ts:List Tk) (f n:Nd) (hd1:0≤n.decl) (hd2:n.decl<(ds.length:Int)) (hrs:m.rs.length=ds.length) (hll:lk.length≤1000) (hl:m.s.ops.length≤2000) :
  Calls Tryz.prog 111 #[.pointer (some ⟨b,0,none⟩),f.val,n.val] w fun e w'=>
   e = .returned (.int .i64 ((wHand (m.env ts ds pl lk) m.s f n).2:Nat))∧Wr w' X b pl ds ns lk (m.st (wHand (m.env ts ds pl lk) m.s f n).1)∧Fr X w w':=by
 have HWR:=hide h
 have HXL:Hid (∀ k,X k→k<w.heap.size):=hide (by obtain ⟨v,hv⟩:=h;exact hv.xlt)
 obtain ⟨w1,hw1⟩:∃ w1,w1=(w.alloc (ndObj f)).alloc (ndObj n):=⟨_,rfl⟩
 obtain ⟨N,hN⟩:∃ N,N=w.heap.size:=⟨_,rfl⟩
 have hB1:Below w.heap.size w w1:=by rw [hw1];exact ((Below.refl _ _).alloc (Nat.le_refl _) _).alloc (by simp) _
 have hS1:N+1<w1.heap.size:=by rw [hw1,hN];simp
 have hbf:w1.heap[N]? = some (ndObj f):=by rw [hw1,hN,Below.heap_alloc _ _ _ (by simp)];exact heap_alloc_new w _
 have hbn:w1.heap[N+1]? = some (ndObj n):=by rw [hw1,hN];have:=heap_alloc_new (w.alloc (ndObj f)) (ndObj n);simpa using this
 have HW1:=hide (h.box hB1)
 obtain ⟨S,hS⟩:∃ S,S=w1.heap.size:=⟨_,rfl⟩
 rw [← hS] at HW1 hS1
 have HNF:Hid (∀ W,Fr (Xn X w.heap.size S) w1 W→NdAt W N f∧NdAt W (N+1) n):=hide (fun W hW=>⟨ndAt_of ((hW.block N (.inr (by omega))).trans hbf),ndAt_of ((hW.block (N+1) (.inr (by omega))).trans hbn)⟩)
 have HA1:=hide (fun W (hW:Wr W (Xn X w.heap.size S) b pl ds ns lk m)=>wadd_any W _ b pl ds ns lk m hW ⟨4,0,0,0⟩ (by omega))
 have HA2:=hide (fun W (hW:Wr W (Xn X w.heap.size S) b pl ds ns lk (m.add ⟨4,0,0,0⟩))=>by
  have:=wconst_any W _ b pl ds ns lk _ hW f (by rw [add_len];omega)
  rw [add_len] at this
  exact this)
 have HA3:=hide (fun W (hW:Wr W (Xn X w.heap.size S) b pl ds ns lk ((m.add ⟨4,0,0,0⟩).add ⟨0,(f.value:Nat),0,0⟩))=>wname_any W _ b pl ds ns lk _ hW ts n hd1 hd2 hrs hll (by rw [add_len,add_len];omega))
 have HF:Hid (wHand (m.env ts ds pl lk) m.s f n=wAdd (wName (m.env ts ds pl lk) ((m.add ⟨4,0,0,0⟩).add ⟨0,(f.value:Nat),0,0⟩).s n).1 ⟨14,(m.s.ops.length:Nat),((m.s.ops.length+1:Nat):Int),((wName (m.env ts ds pl lk) ((m.add ⟨4,0,0,0⟩).add ⟨0,(f.value:Nat),0,0⟩).s n).2:Nat)⟩):=hide rfl
 have hnl:(wName (m.env ts ds pl lk) ((m.add ⟨4,0,0,0⟩).add ⟨0,(f.value:Nat),0,0⟩).s n).1.ops.length≤3000:=by
  have h1:=(wle_name (m.env ts ds pl lk) ((m.add ⟨4,0,0,0⟩).add ⟨0,(f.value:Nat),0,0⟩).s n).ops
  have h2:=later_name (m.env ts ds pl lk) ((m.add ⟨4,0,0,0⟩).add ⟨0,(f.value:Nat),0,0⟩).s n
  rw [h2,add_len,add_len] at h1
  omega
 have HA4:=hide (fun W (hW:Wr W (Xn X w.heap.size S) b pl ds ns lk (((m.add ⟨4,0,0,0⟩).add ⟨0,(f.value:Nat),0,0⟩).st (wName (m.env ts ds pl lk) ((m.add ⟨4,0,0,0⟩).add ⟨0,(f.value:Nat),0,0⟩).s n).1))=>wadd_any W _ b pl ds ns lk _ hW ⟨14,(m.s.ops.length:Nat),((m.s.ops.length+1:Nat):Int),((wName (m.env ts ds pl lk) ((m.add ⟨4,0,0,0⟩).add ⟨0,(f.value:Nat),0,0⟩).s n).2:Nat)⟩ hnl)
 have HB1:=hide hB1
 have HN:=hide hN
 clear h hB1 hbf hbn hnl hS
 rw [hN] at hS1 HNF
 clear hN HN
 unfold ndObj at hw1
 go_enter Tryz.func111,Tryz.ntmps111
 go_wp2_with fail
 rw [← hw1]
 clear hw1
 refine (HA1.out _ HW1.out).mono ?_
 rintro e w2 ⟨rfl,hw2,hf2⟩
 obtain ⟨n1,_⟩:=HNF.out w2 hf2
 obtain ⟨x0,x1,x2,x3,x4,x5,x6,x7,x8,x9,x10⟩:=n1
 have HF2:=hide hf2
 have HW2:=hide hw2
 clear hf2 hw2
 go_wp2_with fail
 refine (HA2.out _ HW2.out).mono ?_
 rintro e w3 ⟨rfl,hw3,hf3⟩
 clear x0 x1 x2 x3 x4 x5 x6 x7 x8 x9 x10
 have HF3:=hide (HF2.out.trans hf3)
 obtain ⟨_,n2⟩:=HNF.out w3 HF3.out
 obtain ⟨x0,x1,x2,x3,x4,x5,x6,x7,x8,x9,x10⟩:=n2
 have HW3:=hide hw3
 clear hf3 hw3 HF2 HW2
 go_wp2_with fail
 refine (HA3.out _ HW3.out).mono ?_
 rintro e w4 ⟨rfl,hw4,hf4⟩
 clear x0 x1 x2 x3 x4 x5 x6 x7 x8 x9 x10
 have HF4:=hide (HF3.out.trans hf4)
 have HW4:=hide hw4
 clear hf4 hw4 HF3 HW3
 go_wp2_with fail
 refine (HA4.out _ HW4.out).mono ?_
 rintro e w5 ⟨rfl,hw5,hf5⟩
 go_wp2
 go_ret
 exact ⟨by rw [HF.out];rfl,by rw [HF.out];exact hw5.less (fun _ hk=>.inl hk),Fr.bel HB1.out HXL.out (HF4.out.trans hf5).xn⟩
end Go.Proofs.YtmndgoapkmhglaaGreat
