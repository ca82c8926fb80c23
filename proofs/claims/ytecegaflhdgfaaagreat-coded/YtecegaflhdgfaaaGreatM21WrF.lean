import Derived.Deep.RegionHeld3
import Derived.Test.YtecegaflhdgfaaaGreatM20WrB
namespace Go.Proofs.YtecegaflhdgfaaaGreat
open Go.RowKit
attribute [local go_sem ↓] Go.wp_at_zero Go.wp_at_succ
theorem Wr.below {w w':World}{X:Nat→Prop}{b:Nat}{pl:Int}{ds:List Dc}{ns:List Nd}{lk:List Rt}{m:WM} (h:Wr w X b pl ds ns lk m) (hb:Below w.heap.size w w'):Wr w' X b pl ds ns lk m:=by
 obtain ⟨v,hv⟩:=h
 exact ⟨v,hv.below hb⟩
theorem Wr.frb {w w':World}{X:Nat→Prop}{b:Nat}{pl:Int}{ds:List Dc}{ns:List Nd}{lk:List Rt}{m:WM} (h:Wr w X b pl ds ns lk m) (hb:Below w.heap.size w w'):Fr X w w':=by
 obtain ⟨v,hv⟩:=h
 exact Fr.of_below hb hv.xlt
theorem wconst_any (w:World) (X:Nat→Prop) (b:Nat) (pl:Int) (ds:List Dc) (ns:List Nd) (lk:List Rt) (m:WM) (h:Wr w X b pl ds ns lk m) (n:Nd) (hl:m.s.ops.length≤3000) :
  Calls Tryz.prog 83 #[.pointer (some ⟨b,0,none⟩),n.val] w fun e w'=>
   e = .returned (.int .i64 (m.s.ops.length:Int))∧Wr w' X b pl ds ns lk (m.add ⟨0,(n.value:Nat),0,0⟩)∧Fr X w w':=by
 have HAL:Hid (∀ o,Below w.heap.size w (w.alloc o)):=hide (fun o=>(Below.refl _ _).alloc (Nat.le_refl _) o)
 have HAD:=hide (fun o=>wadd_any (w.alloc o) X b pl ds ns lk m (h.below (HAL.out o)) ⟨0,(n.value:Nat),0,0⟩ hl)
 have HF:=hide (fun o=>h.frb (HAL.out o))
 clear h
 go_enter Tryz.func83,Tryz.ntmps83
 go_wp2_with fail
 refine (HAD.out _).mono ?_
 rintro e w2 ⟨rfl,hw2,hf2⟩
 go_wp2
 go_ret
 exact ⟨rfl,hw2,(HF.out _).trans hf2⟩
theorem rt_atW {w wr:World}{gr cr:Nat}{l:List Rt} (h:w.ownsRow 0 111 3 (.slice (some ⟨gr,0,none⟩) l.length cr) l.length (rtCells l)) (hb:Below w.heap.size w wr) (hg:gr<w.heap.size) {m:Nat} (hm:m<l.length) (r:Rt) (hr:r=l[m]'hm) :
  wr.cell? ⟨gr,m * 3,none⟩=some (.int .i64 (r.src:Int))∧wr.cell? ⟨gr,m * 3+1,none⟩=some (.int .i64 (r.dst:Int))∧wr.cell? ⟨gr,m * 3+2,none⟩=some (.bool r.late):=by
 have hx:∀ j,j<3→wr.cell? ⟨gr,m * 3+j,none⟩=(r.cells)[j]?:=fun j hj=>by
  rw [hb.cell (p:=⟨gr,m * 3+j,none⟩) hg,h.cellAt (m * 3+j) (by omega),hr]
  unfold rtCells
  exact flat_get Rt.cells 3 rt_len l m j hm hj
 exact ⟨hx 0 (by omega),hx 1 (by omega),hx 2 (by omega)⟩
theorem wFind_at {lk:List Rt}{num j:Nat} (hj:j<lk.length) (hall:∀ i,i<j→∀ r,lk[i]? = some r→r.src≠num) (he:lk[j].src=num):wFind lk num=(j,lk[j].late):=by
 unfold wFind
 have:lk.findIdx? (fun r=>r.src == num)=some j:=by
  rw [List.findIdx?_eq_some_iff_getElem]
  refine ⟨hj,by simp [he],fun i hi=>?_⟩
  have:=hall i hi _ (List.getElem?_eq_getElem (by omega))
  simpa using this
 rw [this]
 show (j,((lk[j]?).map Rt.late).getD false)=_
 rw [List.getElem?_eq_getElem hj];rfl
set_option maxHeartbeats 4000000 in
set_option maxRecDepth 100000 in
theorem wlink_any (w:World) (X:Nat→Prop) (b:Nat) (pl:Int) (ds:List Dc) (ns:List Nd) (lk:List Rt) (m:WM) (h:Wr w X b pl ds ns lk m) (ts:List Tk) (rs:List Nat) (n:Nd) (hd:n.kind=2→0≤n.decl∧n.decl<(ds.length:Int)) (hll:lk.length≤1000) :
  Calls Tryz.prog 110 #[.pointer (some ⟨b,0,none⟩),n.val] w fun e w'=>
   e = .returned (.tuple #[.int .i64 ((wLink ⟨ts,ds,pl,lk,rs⟩ n).1:Nat),.bool (wLink ⟨ts,ds,pl,lk,rs⟩ n).2])∧Below w.heap.size w w':=by
 obtain ⟨v,hv⟩:=h
 obtain ⟨w1,hw1⟩:∃ w1,w1=w.alloc (.cells #[.int .i64 (n.kind:Int),.int .i64 (n.pos:Int),.int .i64 (n.value:Int),.string n.name,.int .i64 n.decl,.int .i64 (n.op:Int),.int .i64 (n.a:Int),.int .i64 (n.b:Int),.int .i64 (n.c:Int),.bool n.delayed,.bool n.behind] 126):=⟨_,rfl⟩
 have hB1:Below w.heap.size w w1:=by rw [hw1];exact (Below.refl _ _).alloc (Nat.le_refl _) _
 have hS1:w.heap.size<w1.heap.size:=by rw [hw1];simp
 have hblk:w1.heap[w.heap.size]? = some (.cells #[.int .i64 (n.kind:Int),.int .i64 (n.pos:Int),.int .i64 (n.value:Int),.string n.name,.int .i64 n.decl,.int .i64 (n.op:Int),.int .i64 (n.a:Int),.int .i64 (n.b:Int),.int .i64 (n.c:Int),.bool n.delayed,.bool n.behind] 126):=by rw [hw1];exact heap_alloc_new w _
 have HND:Hid (∀ W,Below w1.heap.size w1 W→W.cell? ⟨w.heap.size,0,none⟩=some (.int .i64 (n.kind:Int))∧W.cell? ⟨w.heap.size,4,none⟩=some (.int .i64 n.decl)):=hide (fun W hW=>by
  have hN:=(hW.block w.heap.size hS1).trans hblk
  exact ⟨by rw [cell_of_row W _ 0 _ _ _ hN];rfl,by rw [cell_of_row W _ 4 _ _ _ hN];rfl⟩)
 have hv1:=hv.below hB1
 have HB1:=hide hB1
 have HVW:Hid (∀ W,Below w1.heap.size w1 W→WrV W X b pl (wRow ds ns lk m) v):=hide (fun W hW=>hv1.below hW)
 obtain ⟨a3,c3,e3,hs3⟩:=own_shape (hv1.rows 3)
 have e3':v 3 = .slice a3 lk.length c3:=e3
 have hs3':0<lk.length→∃ g,a3=some ⟨g,0,none⟩∧0≤g∧g<w1.heap.size:=hs3
 have HS3:=hide hs3'
 have HE3:=hide e3'
 by_cases hk:n.kind=2
 case neg=>
  have q0:((n.kind:Int) != 2)=true:=by rw [bne_iff_ne];omega
  have HF:Hid (wLink ⟨ts,ds,pl,lk,rs⟩ n=(0,false)):=hide (by unfold wLink;rw [if_pos (.inl hk)])
  obtain ⟨x0,x4⟩:=HND.out w1 (Below.refl _ _)
  clear hv hv1 e3 e3' hs3 hs3' hd hblk hB1 hk
  go_enter Tryz.func110,Tryz.ntmps110
  go_wp2_with fail
  rw [← hw1]
  clear hw1
  go_big_region
  go_wp2
  go_ret2
  exact ⟨by rw [HF.out];rfl,by first | exact HB1.out.drew | exact below_drewN HB1.out _⟩
 case pos=>
  have q0:((n.kind:Int) != 2)=false:=by rw [hk];rfl
  obtain ⟨hd1,hd2⟩:=hd hk
  obtain ⟨db,hdb⟩:∃ db:Nat,n.decl=(db:Int):=⟨n.decl.toNat,by omega⟩
  have hdl:db<ds.length:=by omega
  obtain ⟨a0,c0,e0,hs0⟩:=own_shape (hv1.rows 0)
  obtain ⟨gd,rfl,_,hgd⟩:=hs0 (by show 0<ds.length;omega)
  have e0':v 0 = .slice (some ⟨gd,0,none⟩) ds.length c0:=e0
  have hown0:w1.ownsRow 0 91 7 (.slice (some ⟨gd,0,none⟩) ds.length c0) ds.length (dcCells ds):=by rw [← e0'];exact hv1.rows 0
  obtain ⟨d,hdd⟩:∃ d,d=ds[db]'hdl:=⟨_,rfl⟩
  have HDC:Hid (∀ W,Below w1.heap.size w1 W→W.cell? ⟨b,0,none⟩=some (.slice (some ⟨gd,0,none⟩) ds.length c0)∧W.cell? ⟨gd,db * 7,none⟩=some (.int .i64 (d.kind:Int))∧W.cell? ⟨gd,db * 7+1,none⟩=some (.int .i64 (d.number:Int))):=hide (fun W hW=>by
   have:=dc_later hown0 hW hgd hdl d hdd
   exact ⟨by rw [← e0'];exact (HVW.out W hW).cell.1,this.1,this.2.1⟩)
  obtain ⟨x0,x4⟩:=HND.out w1 (Below.refl _ _)
  obtain ⟨y0,y1,y2⟩:=HDC.out w1 (Below.refl _ _)
  have i1:(0:Int)≤(db:Int):=by omega
  have i2:(db:Int)<(ds.length:Int):=by omega
  have hkind:kindAt ds n.decl=d.kind:=by unfold kindAt;rw [hdb,Int.toNat_natCast,List.getD_eq_getElem?_getD,List.getElem?_eq_getElem hdl,hdd];rfl
  have hnum:numAt ds n.decl=d.number:=by unfold numAt;rw [hdb,Int.toNat_natCast,List.getD_eq_getElem?_getD,List.getElem?_eq_getElem hdl,hdd];rfl
  rw [hdb] at x4 hw1 HND
  by_cases hk0:d.kind=0
  ·have q1:((d.kind:Int) == 0)=true:=by rw [hk0];rfl
   have HF:Hid (wLink ⟨ts,ds,pl,lk,rs⟩ n=(0,false)):=hide (by unfold wLink;rw [if_pos (.inr (by rw [← hk0];exact hkind))])
   have hdb':=hide hdb
   clear hv hv1 e3 e3' hs3 hs3' hd hblk hB1 hk e0 e0' hs0 hown0 hkind hnum hk0 hdd hd1 hd2 hdb
   go_enter Tryz.func110,Tryz.ntmps110
   go_wp2_with fail
   rw [hdb'.out,← hw1]
   clear hw1
   go_big_region
   go_wp2
   go_ret2
   exact ⟨by rw [HF.out];rfl,by first | exact HB1.out.drew | exact below_drewN HB1.out _⟩
  ·have q1:((d.kind:Int) == 0)=false:=by rw [beq_eq_false_iff_ne];omega
   have HF:Hid (wLink ⟨ts,ds,pl,lk,rs⟩ n=wFind lk d.number):=hide (by unfold wLink;rw [if_neg (by rw [hkind];simp [hk,hk0])];show wFind lk (numAt ds n.decl)=_;rw [hnum])
   have hdb':=hide hdb
   have y3:w1.cell? ⟨b,3,none⟩=some (.slice a3 lk.length c3):=by rw [← e3'];exact hv1.cell.2.2.2.1
   have y3d:w1.drew.cell? ⟨b,3,none⟩=some (.slice a3 lk.length c3):=y3
   have HOWN3:Hid (w1.ownsRow 0 111 3 (.slice a3 lk.length c3) lk.length (rtCells lk)):=hide (by rw [← e3'];exact hv1.rows 3)
   clear hv hv1 e3 e3' hs3 hs3' hd hblk hB1 hk e0 e0' hs0 hown0 hkind hnum hk0 hdd hd1 hd2 hdb
   go_enter Tryz.func110,Tryz.ntmps110
   go_wp2_with fail
   rw [hdb'.out,← hw1]
   clear hw1
   go_big_region
   go_wp2
   go_loopw [29] (fun vj wr=>∃ j:Nat,j≤lk.length∧vj = .int .i64 j∧Below w1.heap.size w1 wr∧∀ i,i<j→∀ r,lk[i]? = some r→r.src≠d.number) (fun vj _=>lk.length - (intOf vj).toNat)
   case atStart=>exact ⟨0,Nat.zero_le _,rfl,by first | exact (Below.refl _ _).drew | exact below_drewN (Below.refl _ _) _,fun i hi=>by omega⟩
   case round=>
    clear x0 x4 y0 y1 y2 y3 y3d
    obtain ⟨j,hj,rfl,hbr,hall⟩:=hrel
    have HALL:=hide hall
    have HBR:=hide hbr
    have HBW:=hide (HB1.out.trans (hbr.mono HB1.out.size))
    by_cases hjl:j<lk.length
    ·obtain ⟨g3,rfl,_,hg3⟩:=HS3.out (by omega)
     obtain ⟨r,hr⟩:∃ r,r=lk[j]'hjl:=⟨_,rfl⟩
     obtain ⟨r0,r1,r2⟩:=rt_atW HOWN3.out hbr hg3 hjl r hr
     have HAL:Hid (∀ o,Below w1.heap.size w1 (wr.alloc o)):=hide (fun o=>HBR.out.alloc HBR.out.size o)
     have x4a:∀ o,(wr.alloc o).cell? ⟨w.heap.size,4,none⟩=some (.int .i64 (db:Int)):=fun o=>(HND.out _ (HAL.out o)).2
     have y0a:∀ o,(wr.alloc o).cell? ⟨b,0,none⟩=some (.slice (some ⟨gd,0,none⟩) ds.length c0):=fun o=>(HDC.out _ (HAL.out o)).1
     have y2a:∀ o,(wr.alloc o).cell? ⟨gd,db * 7+1,none⟩=some (.int .i64 (d.number:Int)):=fun o=>(HDC.out _ (HAL.out o)).2.2
     have j3:(0:Int)≤(j:Int):=by omega
     have j4:(j:Int)<(lk.length:Int):=by omega
     by_cases he:r.src=d.number
     ·have q5:((r.src:Int) == (d.number:Int))=true:=by rw [he];simp
      have HF2:Hid (wFind lk d.number=(j,r.late)):=hide (by
       have:=wFind_at hjl HALL.out (by rw [← hr];exact he)
       rw [this,← hr])
      clear hall hr he hbr
      go_wp2_with fail
      go_big_region
      go_wp2_with fail
      go_big_region
      go_wp2
      go_ret2
      exact ⟨by rw [HF.out,HF2.out];rfl,by first | exact (HBW.out.alloc HBW.out.size _).drew.drew | exact below_drewN (HBW.out.alloc HBW.out.size _) _⟩
     ·have q5:((r.src:Int) == (d.number:Int))=false:=by rw [beq_eq_false_iff_ne];omega
      have HN:Hid (∀ i,i<j+1→∀ r,lk[i]? = some r→r.src≠d.number):=hide (fun i hi r' hr'=>by
       by_cases e:i=j
       ·subst e
        rw [List.getElem?_eq_getElem hjl,← hr] at hr'
        cases hr';exact he
       ·exact HALL.out i (by omega) r' hr')
      clear hall hr he hbr
      go_wp2_with fail
      go_big_region
      go_wp2
      go_roundw
      case rel=>exact ⟨j+1,by omega,by go_num,by first | exact (HAL.out _).drew | exact below_drewN (HAL.out _) _,HN.out⟩
      case measure=>simp [intOf];omega
    ·have ej:j=lk.length:=by omega
     subst ej
     have z9:¬ (lk.length:Int)<(lk.length:Int):=by omega
     have HF2:Hid (wFind lk d.number=(0,false)):=hide (wFind_none (fun r hr=>by
      obtain ⟨i,hi,rfl⟩:=List.getElem_of_mem hr
      exact HALL.out i hi _ (List.getElem?_eq_getElem hi)))
     clear hall hbr
     go_wp2
     go_ret2
     exact ⟨by rw [HF.out,HF2.out];rfl,by first | exact HBW.out | exact below_drewN HBW.out _⟩
def WM.st (m:WM) (s:WSt):WM:={ m with s:=s }
def WM.env (m:WM) (ts:List Tk) (ds:List Dc) (pl:Int) (lk:List Rt):WEnv:=⟨ts,ds,pl,lk,m.rs⟩
set_option maxHeartbeats 4000000 in
set_option maxRecDepth 100000 in
theorem wname_any (w:World) (X:Nat→Prop) (b:Nat) (pl:Int) (ds:List Dc) (ns:List Nd) (lk:List Rt) (m:WM) (h:Wr w X b pl ds ns lk m) (ts:List Tk) (n:Nd) (hd1:0≤n.decl) (hd2:n.decl<(ds.length:Int)) (hrs:m.rs.length=ds.length) (hll:lk.length≤1000) (hl:m.s.ops.length≤3000) :
  Calls Tryz.prog 80 #[.pointer (some ⟨b,0,none⟩),n.val] w fun e w'=>
   e = .returned (.int .i64 ((wName (m.env ts ds pl lk) m.s n).2:Nat))∧Wr w' X b pl ds ns lk (m.st (wName (m.env ts ds pl lk) m.s n).1)∧Fr X w w':=by
 have HWR:=hide h
 obtain ⟨v,hv⟩:=h
 obtain ⟨w1,hw1⟩:∃ w1,w1=w.alloc (.cells #[.int .i64 (n.kind:Int),.int .i64 (n.pos:Int),.int .i64 (n.value:Int),.string n.name,.int .i64 n.decl,.int .i64 (n.op:Int),.int .i64 (n.a:Int),.int .i64 (n.b:Int),.int .i64 (n.c:Int),.bool n.delayed,.bool n.behind] 126):=⟨_,rfl⟩
 have hB1:Below w.heap.size w w1:=by rw [hw1];exact (Below.refl _ _).alloc (Nat.le_refl _) _
 have hS1:w.heap.size<w1.heap.size:=by rw [hw1];simp
 have hblk:w1.heap[w.heap.size]? = some (.cells #[.int .i64 (n.kind:Int),.int .i64 (n.pos:Int),.int .i64 (n.value:Int),.string n.name,.int .i64 n.decl,.int .i64 (n.op:Int),.int .i64 (n.a:Int),.int .i64 (n.b:Int),.int .i64 (n.c:Int),.bool n.delayed,.bool n.behind] 126):=by rw [hw1];exact heap_alloc_new w _
 have hv1:=hv.below hB1
 have HB1:=hide hB1
 have HVW:Hid (∀ W,Below w1.heap.size w1 W→WrV W X b pl (wRow ds ns lk m) v):=hide (fun W hW=>hv1.below hW)
 obtain ⟨db,hdb⟩:∃ db:Nat,n.decl=(db:Int):=⟨n.decl.toNat,by omega⟩
 have hdl:db<ds.length:=by omega
 have HND:Hid (∀ W,Below w1.heap.size w1 W→W.heap[w.heap.size]? = some (.cells #[.int .i64 (n.kind:Int),.int .i64 (n.pos:Int),.int .i64 (n.value:Int),.string n.name,.int .i64 (db:Int),.int .i64 (n.op:Int),.int .i64 (n.a:Int),.int .i64 (n.b:Int),.int .i64 (n.c:Int),.bool n.delayed,.bool n.behind] 126)):=hide (fun W hW=>by rw [← hdb];exact (hW.block w.heap.size hS1).trans hblk)
 obtain ⟨a0,c0,e0,hs0⟩:=own_shape (hv1.rows 0)
 obtain ⟨gd,rfl,_,hgd⟩:=hs0 (by show 0<ds.length;omega)
 have e0':v 0 = .slice (some ⟨gd,0,none⟩) ds.length c0:=e0
 have hown0:w1.ownsRow 0 91 7 (.slice (some ⟨gd,0,none⟩) ds.length c0) ds.length (dcCells ds):=by rw [← e0'];exact hv1.rows 0
 obtain ⟨a8,c8,e8,hs8⟩:=own_shape (hv1.rows 8)
 obtain ⟨g8,rfl,_,hg8⟩:=hs8 (by show 0<m.rs.length;omega)
 have e8':v 8 = .slice (some ⟨g8,0,none⟩) m.rs.length c8:=e8
 have hown8:w1.ownsRow 0 3 1 (.slice (some ⟨g8,0,none⟩) m.rs.length c8) m.rs.length (tCells m.rs):=by rw [← e8'];exact hv1.rows 8
 obtain ⟨d,hdd⟩:∃ d,d=ds[db]'hdl:=⟨_,rfl⟩
 have HDC:Hid (∀ W,Below w1.heap.size w1 W→W.cell? ⟨b,0,none⟩=some (.slice (some ⟨gd,0,none⟩) ds.length c0)∧W.cell? ⟨b,2,none⟩=some (.int .i64 pl)∧W.cell? ⟨b,8,none⟩=some (.slice (some ⟨g8,0,none⟩) m.rs.length c8)∧W.cell? ⟨g8,db,none⟩=some (.int .i64 ((m.rs.getD db 0:Nat):Int))):=hide (fun W hW=>by
  have hc:=(HVW.out W hW).cell
  refine ⟨by rw [← e0'];exact hc.1,hc.2.2.1,by rw [← e8'];exact hc.2.2.2.2.2.2.2.2.1,?_⟩
  rw [hW.cell (p:=⟨g8,db,none⟩) hg8,hown8.cellAt db (by omega)]
  unfold tCells
  rw [List.getElem?_map,List.getElem?_eq_getElem (by omega),List.getD_eq_getElem?_getD,List.getElem?_eq_getElem (by omega)];rfl)
 have HDL:Hid (∀ W,Below w1.heap.size w1 W→_):=hide (fun W hW=>dc_later hown0 hW hgd hdl d hdd)
 have hbx:w1.cell? ⟨w.heap.size,4,none⟩=some (.int .i64 (db:Int)):=by rw [cell_of_row w1 _ 4 _ _ _ (HND.out w1 (Below.refl _ _))];rfl
 obtain ⟨y0,y2,y8,z8⟩:=HDC.out w1 (Below.refl _ _)
 obtain ⟨t0,t1,t2,t3,t4,t5,t6⟩:=HDL.out w1 (Below.refl _ _)
 have i1:(0:Int)≤(db:Int):=by omega
 have i2:(db:Int)<(ds.length:Int):=by omega
 have i3:(db:Int)<(m.rs.length:Int):=by omega
 have hkind:kindAt ds n.decl=d.kind:=by unfold kindAt;rw [hdb,Int.toNat_natCast,List.getD_eq_getElem?_getD,List.getElem?_eq_getElem hdl,hdd];rfl
 have hnum:numAt ds n.decl=d.number:=by unfold numAt;rw [hdb,Int.toNat_natCast,List.getD_eq_getElem?_getD,List.getElem?_eq_getElem hdl,hdd];rfl
 have hpla:plAt ds n.decl=d.place:=by unfold plAt;rw [hdb,Int.toNat_natCast,List.getD_eq_getElem?_getD,List.getElem?_eq_getElem hdl,hdd];rfl
 have HNM:Hid (wName (m.env ts ds pl lk) m.s n=if d.kind=0 then wAdd m.s ⟨1,(d.number:Nat),0,0⟩ else if ((d.place:Nat):Int)=pl then (m.s,m.rs.getD db 0) else wAdd m.s ⟨2,((wLink (m.env ts ds pl lk) n).1:Nat),0,0⟩):=hide (by
  unfold wName WM.env
  simp only
  rw [hkind,hnum,hpla,hdb,Int.toNat_natCast])
 have HA:Hid (∀ o,Below w1.heap.size w1 (w1.alloc o)):=hide (fun o=>(Below.refl _ _).alloc (Nat.le_refl _) o)
 have HWA:Hid (∀ o,Wr (w1.alloc o).drew X b pl ds ns lk m∧Fr X w (w1.alloc o).drew):=hide (fun o=>by
  have hb:Below w.heap.size w (w1.alloc o).drew:=(HB1.out.trans ((HA.out o).mono HB1.out.size)).drew
  exact ⟨HWR.out.below hb,HWR.out.frb hb⟩)
 have HLK:=hide (fun W (hW:Wr W X b pl ds ns lk m)=>wlink_any W X b pl ds ns lk m hW ts m.rs n (fun _=>⟨hd1,hd2⟩) hll)
 have y0a:∀ o,(w1.alloc o).cell? ⟨b,0,none⟩=some (.slice (some ⟨gd,0,none⟩) ds.length c0):=fun o=>(HDC.out _ (HA.out o)).1
 have y2a:∀ o,(w1.alloc o).cell? ⟨b,2,none⟩=some (.int .i64 pl):=fun o=>(HDC.out _ (HA.out o)).2.1
 have y8a:∀ o,(w1.alloc o).cell? ⟨b,8,none⟩=some (.slice (some ⟨g8,0,none⟩) m.rs.length c8):=fun o=>(HDC.out _ (HA.out o)).2.2.1
 have z8a:∀ o,(w1.alloc o).cell? ⟨g8,db,none⟩=some (.int .i64 ((m.rs.getD db 0:Nat):Int)):=fun o=>(HDC.out _ (HA.out o)).2.2.2
 have n4a:∀ o,(w1.alloc o).cell? ⟨w.heap.size,4,none⟩=some (.int .i64 (db:Int)):=fun o=>by rw [cell_of_row _ _ 4 _ _ _ (HND.out _ (HA.out o))];rfl
 have n0a:∀ o,(w1.alloc o).heap[w.heap.size]? = _:=fun o=>HND.out _ (HA.out o)
 have HN0:=hide n0a
 have HDB:=hide hdb
 have hdb':=hide hdb
 clear hv hv1 hblk hB1 e0 e0' hs0 hown0 e8 e8' hs8 hown8 hkind hnum hpla hdd hd1 hd2 hdb n0a
 obtain ⟨rv,hrv⟩:∃ rv,rv=m.rs.getD db 0:=⟨_,rfl⟩
 simp only [← hrv] at z8 z8a HNM
 clear hrv HDC
 by_cases hk0:d.kind=0
 ·have q1:((d.kind:Int) == 0)=true:=by rw [hk0];rfl
  have HF:Hid (wName (m.env ts ds pl lk) m.s n=wAdd m.s ⟨1,(d.number:Nat),0,0⟩):=hide (by rw [HNM.out,if_pos hk0])
  have HAD:=hide (fun o=>wadd_any _ X b pl ds ns lk m (HWA.out o).1 ⟨1,(d.number:Nat),0,0⟩ hl)
  clear hk0
  go_enter Tryz.func80,Tryz.ntmps80
  go_wp2_with fail
  rw [hdb'.out] at hw1 ⊢
  rw [← hw1]
  clear hw1
  go_big_region
  go_wp2_with fail
  refine (HAD.out _).mono ?_
  rintro e w2 ⟨rfl,hw2,hf2⟩
  go_wp2
  go_ret
  exact ⟨by rw [HF.out];rfl,by rw [HF.out];exact hw2,(HWA.out _).2.trans hf2⟩
 ·have q1:((d.kind:Int) == 0)=false:=by rw [beq_eq_false_iff_ne];omega
  by_cases hp:((d.place:Nat):Int)=pl
  ·have q2:((d.place:Int) == pl)=true:=by rw [hp];simp
   have HF:Hid (wName (m.env ts ds pl lk) m.s n=(m.s,rv)):=hide (by rw [HNM.out,if_neg hk0,if_pos hp])
   clear hk0 hp
   go_enter Tryz.func80,Tryz.ntmps80
   go_wp2_with fail
   rw [hdb'.out] at hw1 ⊢
   rw [← hw1]
   clear hw1
   go_big_region
   go_wp2_with fail
   go_big_region
   go_wp2_with fail
   go_big_region
   go_wp2
   go_ret
   refine ⟨by rw [HF.out];rfl,?_,?_⟩
   ·rw [HF.out];first | exact (HWA.out _).1 | exact (HWA.out _).1.below ((Below.refl _ _).drew) | exact (HWA.out _).1.below ((Below.refl _ _).drew.drew)
   ·first | exact (HWA.out _).2 | exact (HWA.out _).2.trans ((HWA.out _).1.frb ((Below.refl _ _).drew)) | exact (HWA.out _).2.trans ((HWA.out _).1.frb ((Below.refl _ _).drew.drew))
  ·have q2:((d.place:Int) == pl)=false:=by rw [beq_eq_false_iff_ne];exact hp
   have HF:Hid (wName (m.env ts ds pl lk) m.s n=wAdd m.s ⟨2,((wLink (m.env ts ds pl lk) n).1:Nat),0,0⟩):=hide (by rw [HNM.out,if_neg hk0,if_neg hp])
   have HAD:=hide (fun W (hW:Wr W X b pl ds ns lk m) z=>wadd_any W X b pl ds ns lk m hW ⟨2,z,0,0⟩ hl)
   have m0:∀ o,(w1.alloc o).cell? ⟨w.heap.size,0,none⟩=some (.int .i64 (n.kind:Int)):=fun o=>by rw [cell_of_row _ _ 0 _ _ _ (HN0.out o)];rfl
   have m1:∀ o,(w1.alloc o).cell? ⟨w.heap.size,1,none⟩=some (.int .i64 (n.pos:Int)):=fun o=>by rw [cell_of_row _ _ 1 _ _ _ (HN0.out o)];rfl
   have m2:∀ o,(w1.alloc o).cell? ⟨w.heap.size,2,none⟩=some (.int .i64 (n.value:Int)):=fun o=>by rw [cell_of_row _ _ 2 _ _ _ (HN0.out o)];rfl
   have m3:∀ o,(w1.alloc o).cell? ⟨w.heap.size,3,none⟩=some (.string n.name):=fun o=>by rw [cell_of_row _ _ 3 _ _ _ (HN0.out o)];rfl
   have m5:∀ o,(w1.alloc o).cell? ⟨w.heap.size,5,none⟩=some (.int .i64 (n.op:Int)):=fun o=>by rw [cell_of_row _ _ 5 _ _ _ (HN0.out o)];rfl
   have m6:∀ o,(w1.alloc o).cell? ⟨w.heap.size,6,none⟩=some (.int .i64 (n.a:Int)):=fun o=>by rw [cell_of_row _ _ 6 _ _ _ (HN0.out o)];rfl
   have m7:∀ o,(w1.alloc o).cell? ⟨w.heap.size,7,none⟩=some (.int .i64 (n.b:Int)):=fun o=>by rw [cell_of_row _ _ 7 _ _ _ (HN0.out o)];rfl
   have m8:∀ o,(w1.alloc o).cell? ⟨w.heap.size,8,none⟩=some (.int .i64 (n.c:Int)):=fun o=>by rw [cell_of_row _ _ 8 _ _ _ (HN0.out o)];rfl
   have m9:∀ o,(w1.alloc o).cell? ⟨w.heap.size,9,none⟩=some (.bool n.delayed):=fun o=>by rw [cell_of_row _ _ 9 _ _ _ (HN0.out o)];rfl
   have m10:∀ o,(w1.alloc o).cell? ⟨w.heap.size,10,none⟩=some (.bool n.behind):=fun o=>by rw [cell_of_row _ _ 10 _ _ _ (HN0.out o)];rfl
   simp only [Nd.val] at HLK
   rw [hdb'.out] at HLK
   clear hk0 hp
   go_enter Tryz.func80,Tryz.ntmps80
   go_wp2_with fail
   rw [hdb'.out] at hw1 ⊢
   rw [← hw1]
   clear hw1
   go_big_region
   go_wp2_with fail
   go_big_region
   go_wp2_with fail
   refine (HLK.out _ ?hw).mono ?_
   case hw=>first | exact (HWA.out _).1 | exact (HWA.out _).1.below ((Below.refl _ _).drew)
   rintro e w2 ⟨rfl,hb2⟩
   have hW2:Wr w2 X b pl ds ns lk m∧Fr X w w2:=by
    first
     | exact ⟨(HWA.out _).1.below hb2,(HWA.out _).2.trans ((HWA.out _).1.frb hb2)⟩
     | exact ⟨(HWA.out _).1.below ((Below.refl _ _).drew.trans hb2),(HWA.out _).2.trans ((HWA.out _).1.frb ((Below.refl _ _).drew.trans hb2))⟩
   have HW2:=hide hW2
   clear hb2 hW2
   go_wp2_with fail
   refine (HAD.out _ HW2.out.1 _).mono ?_
   rintro e w3 ⟨rfl,hw3,hf3⟩
   go_wp2
   go_ret
   exact ⟨by rw [HF.out];rfl,by rw [HF.out];exact hw3,HW2.out.2.trans hf3⟩
theorem Wr.less {w:World}{X Y:Nat→Prop}{b:Nat}{pl:Int}{ds:List Dc}{ns:List Nd}{lk:List Rt}{m:WM} (h:Wr w Y b pl ds ns lk m) (hX:∀ k,X k→Y k):Wr w X b pl ds ns lk m:=by
 obtain ⟨v,hv⟩:=h
 exact ⟨v,hv.more (fun k hk=>hv.xlt k (hX k hk)) (fun hk=>hv.xb (hX b hk)) (fun i g hi hg hk=>hv.xv i g hi hg (hX g hk))⟩
def Xn (X:Nat→Prop) (a c:Nat) (k:Nat):Prop:=X k∨(a≤k∧k<c)
theorem Wr.box {w:World}{X:Nat→Prop}{b:Nat}{pl:Int}{ds:List Dc}{ns:List Nd}{lk:List Rt}{m:WM} (h:Wr w X b pl ds ns lk m) {w':World} (hb:Below w.heap.size w w'):Wr w' (Xn X w.heap.size w'.heap.size) b pl ds ns lk m:=by
 obtain ⟨v,hv⟩:=h
 have hv':=hv.below hb
 refine ⟨v,hv'.more ?_ ?_ ?_⟩
 ·rintro k (hk | hk)
  ·exact hv'.xlt k hk
  ·exact hk.2
 ·rintro (hk | hk)
  ·exact hv'.xb hk
  ·have:=hv.lt;omega
 ·rintro i g hi hg (hk | hk)
  ·exact hv'.xv i g hi hg hk
  ·have:=((hv.rows i).lt g hg).2;omega
theorem add_len (m:WM) (o:OpF):(m.add o).s.ops.length=m.s.ops.length+1:=by simp [WM.add,wAdd]
theorem Fr.xn {X:Nat→Prop}{c d:Nat}{a b:World} (h:Fr (Xn X c d) a b):Fr X a b:=h.mono (fun _ hk=>.inl hk)
theorem Fr.bel {X:Nat→Prop}{w w1 w2:World} (h:Below w.heap.size w w1) (hX:∀ k,X k→k<w.heap.size) (k:Fr X w1 w2):Fr X w w2:=(Fr.of_below h hX).trans k
def ndObj (n:Nd):Obj:=.cells #[.int .i64 (n.kind:Int),.int .i64 (n.pos:Int),.int .i64 (n.value:Int),.string n.name,.int .i64 n.decl,.int .i64 (n.op:Int),.int .i64 (n.a:Int),.int .i64 (n.b:Int),.int .i64 (n.c:Int),.bool n.delayed,.bool n.behind] 126
structure NdAt (w:World) (N:Nat) (n:Nd):Prop where
 c0:w.cell? ⟨N,0,none⟩=some (.int .i64 (n.kind:Int))
 c1:w.cell? ⟨N,1,none⟩=some (.int .i64 (n.pos:Int))
 c2:w.cell? ⟨N,2,none⟩=some (.int .i64 (n.value:Int))
 c3:w.cell? ⟨N,3,none⟩=some (.string n.name)
 c4:w.cell? ⟨N,4,none⟩=some (.int .i64 n.decl)
 c5:w.cell? ⟨N,5,none⟩=some (.int .i64 (n.op:Int))
 c6:w.cell? ⟨N,6,none⟩=some (.int .i64 (n.a:Int))
 c7:w.cell? ⟨N,7,none⟩=some (.int .i64 (n.b:Int))
 c8:w.cell? ⟨N,8,none⟩=some (.int .i64 (n.c:Int))
 c9:w.cell? ⟨N,9,none⟩=some (.bool n.delayed)
 c10:w.cell? ⟨N,10,none⟩=some (.bool n.behind)
theorem ndAt_of {w:World}{N:Nat}{n:Nd} (h:w.heap[N]? = some (ndObj n)):NdAt w N n:=by
 unfold ndObj at h
 exact ⟨by rw [cell_of_row w N 0 _ _ _ h];rfl,by rw [cell_of_row w N 1 _ _ _ h];rfl,by rw [cell_of_row w N 2 _ _ _ h];rfl,by rw [cell_of_row w N 3 _ _ _ h];rfl,by rw [cell_of_row w N 4 _ _ _ h];rfl,by rw [cell_of_row w N 5 _ _ _ h];rfl,by rw [cell_of_row w N 6 _ _ _ h];rfl,by rw [cell_of_row w N 7 _ _ _ h];rfl,by rw [cell_of_row w N 8 _ _ _ h];rfl,by rw [cell_of_row w N 9 _ _ _ h];rfl,by rw [cell_of_row w N 10 _ _ _ h];rfl⟩
set_option maxHeartbeats 4000000 in
set_option maxRecDepth 100000 in
theorem whand_any (w:World) (X:Nat→Prop) (b:Nat) (pl:Int) (ds:List Dc) (ns:List Nd) (lk:List Rt) (m:WM) (h:Wr w X b pl ds ns lk m) (ts:List Tk) (f n:Nd) (hd1:0≤n.decl) (hd2:n.decl<(ds.length:Int)) (hrs:m.rs.length=ds.length) (hll:lk.length≤1000) (hl:m.s.ops.length≤2000) :
  Calls Tryz.prog 111 #[.pointer (some ⟨b,0,none⟩),f.val,n.val] w fun e w'=>
   e = .returned (.int .i64 ((wHand (m.env ts ds pl lk) m.s f n).2:Nat))∧Wr w' X b pl ds ns lk (m.st (wHand (m.env ts ds pl lk) m.s f n).1)∧Fr X w w':=by
 have HWR:=hide h
 have HXL:Hid (∀ k,X k→k<w.heap.size):=hide (by obtain ⟨v,hv⟩:=h;exact hv.xlt)
 obtain ⟨w1,hw1⟩:∃ w1,w1=(w.alloc (ndObj f)).alloc (ndObj n):=⟨_,rfl⟩
 obtain ⟨N,hN⟩:∃ N,N=w.heap.size:=⟨_,rfl⟩
 have hB1:Below w.heap.size w w1:=by rw [hw1];exact ((Below.refl _ _).alloc (Nat.le_refl _) _).alloc (by simp) _
 have hS1:N+1<w1.heap.size:=by rw [hw1,hN];simp
 have hbf:w1.heap[N]? = some (ndObj f):=by rw [hw1,hN,Below.heap_alloc _ _ _ (by simp)];exact heap_alloc_new w _
 have hbn:w1.heap[N+1]? = some (ndObj n):=by rw [hw1,hN];have:=heap_alloc_new (w.alloc (ndObj f)) (ndObj n);simpa using this
 have HW1:=hide (h.box hB1)
 obtain ⟨S,hS⟩:∃ S,S=w1.heap.size:=⟨_,rfl⟩
 rw [← hS] at HW1 hS1
 have HNF:Hid (∀ W,Fr (Xn X w.heap.size S) w1 W→NdAt W N f∧NdAt W (N+1) n):=hide (fun W hW=>⟨ndAt_of ((hW.block N (.inr (by omega))).trans hbf),ndAt_of ((hW.block (N+1) (.inr (by omega))).trans hbn)⟩)
 have HA1:=hide (fun W (hW:Wr W (Xn X w.heap.size S) b pl ds ns lk m)=>wadd_any W _ b pl ds ns lk m hW ⟨4,0,0,0⟩ (by omega))
 have HA2:=hide (fun W (hW:Wr W (Xn X w.heap.size S) b pl ds ns lk (m.add ⟨4,0,0,0⟩))=>by
  have:=wconst_any W _ b pl ds ns lk _ hW f (by rw [add_len];omega)
  rw [add_len] at this
  exact this)
 have HA3:=hide (fun W (hW:Wr W (Xn X w.heap.size S) b pl ds ns lk ((m.add ⟨4,0,0,0⟩).add ⟨0,(f.value:Nat),0,0⟩))=>wname_any W _ b pl ds ns lk _ hW ts n hd1 hd2 hrs hll (by rw [add_len,add_len];omega))
 have HF:Hid (wHand (m.env ts ds pl lk) m.s f n=wAdd (wName (m.env ts ds pl lk) ((m.add ⟨4,0,0,0⟩).add ⟨0,(f.value:Nat),0,0⟩).s n).1 ⟨14,(m.s.ops.length:Nat),((m.s.ops.length+1:Nat):Int),((wName (m.env ts ds pl lk) ((m.add ⟨4,0,0,0⟩).add ⟨0,(f.value:Nat),0,0⟩).s n).2:Nat)⟩):=hide rfl
 have hnl:(wName (m.env ts ds pl lk) ((m.add ⟨4,0,0,0⟩).add ⟨0,(f.value:Nat),0,0⟩).s n).1.ops.length≤3000:=by
  have h1:=(wle_name (m.env ts ds pl lk) ((m.add ⟨4,0,0,0⟩).add ⟨0,(f.value:Nat),0,0⟩).s n).ops
  have h2:=later_name (m.env ts ds pl lk) ((m.add ⟨4,0,0,0⟩).add ⟨0,(f.value:Nat),0,0⟩).s n
  rw [h2,add_len,add_len] at h1
  omega
 have HA4:=hide (fun W (hW:Wr W (Xn X w.heap.size S) b pl ds ns lk (((m.add ⟨4,0,0,0⟩).add ⟨0,(f.value:Nat),0,0⟩).st (wName (m.env ts ds pl lk) ((m.add ⟨4,0,0,0⟩).add ⟨0,(f.value:Nat),0,0⟩).s n).1))=>wadd_any W _ b pl ds ns lk _ hW ⟨14,(m.s.ops.length:Nat),((m.s.ops.length+1:Nat):Int),((wName (m.env ts ds pl lk) ((m.add ⟨4,0,0,0⟩).add ⟨0,(f.value:Nat),0,0⟩).s n).2:Nat)⟩ hnl)
 have HB1:=hide hB1
 have HN:=hide hN
 clear h hB1 hbf hbn hnl hS
 rw [hN] at hS1 HNF
 clear hN HN
 unfold ndObj at hw1
 go_enter Tryz.func111,Tryz.ntmps111
 go_wp2_with fail
 rw [← hw1]
 clear hw1
 refine (HA1.out _ HW1.out).mono ?_
 rintro e w2 ⟨rfl,hw2,hf2⟩
 obtain ⟨n1,_⟩:=HNF.out w2 hf2
 obtain ⟨x0,x1,x2,x3,x4,x5,x6,x7,x8,x9,x10⟩:=n1
 have HF2:=hide hf2
 have HW2:=hide hw2
 clear hf2 hw2
 go_wp2_with fail
 refine (HA2.out _ HW2.out).mono ?_
 rintro e w3 ⟨rfl,hw3,hf3⟩
 clear x0 x1 x2 x3 x4 x5 x6 x7 x8 x9 x10
 have HF3:=hide (HF2.out.trans hf3)
 obtain ⟨_,n2⟩:=HNF.out w3 HF3.out
 obtain ⟨x0,x1,x2,x3,x4,x5,x6,x7,x8,x9,x10⟩:=n2
 have HW3:=hide hw3
 clear hf3 hw3 HF2 HW2
 go_wp2_with fail
 refine (HA3.out _ HW3.out).mono ?_
 rintro e w4 ⟨rfl,hw4,hf4⟩
 clear x0 x1 x2 x3 x4 x5 x6 x7 x8 x9 x10
 have HF4:=hide (HF3.out.trans hf4)
 have HW4:=hide hw4
 clear hf4 hw4 HF3 HW3
 go_wp2_with fail
 refine (HA4.out _ HW4.out).mono ?_
 rintro e w5 ⟨rfl,hw5,hf5⟩
 go_wp2
 go_ret
 exact ⟨by rw [HF.out];rfl,by rw [HF.out];exact hw5.less (fun _ hk=>.inl hk),Fr.bel HB1.out HXL.out (HF4.out.trans hf5).xn⟩
def wDelay (E:WEnv) (s:WSt) (f n:Nd) (l:Lt):WSt × Nat:=if (wLink E n).2=true then wHand E s f n else wCell s f l
def WM.cell (m:WM) (x:Int):WM:={ m with s:=⟨m.s.ops,m.s.cells ++ [x],m.s.later⟩ }
def WM.lat (m:WM) (l:Lt):WM:={ m with s:=⟨m.s.ops,m.s.cells,m.s.later ++ [l]⟩ }
theorem iCells_snocW (l:List Int) (x:Int):iCells (l ++ [x])=iCells l ++ [.int .i64 x]:=by simp [iCells]
theorem rows_cell (ds:List Dc) (ns:List Nd) (lk:List Rt) (m:WM) (x:Int):∀ j,up (wRow ds ns lk m) 5 ⟨3,1,m.s.cells.length+1,iCells (m.s.cells ++ [x])⟩ j=wRow ds ns lk (m.cell x) j:=by
 refine row_up ds ns lk m (m.cell x) 5 _ ?_ ?_
 ·simp [wRow,WM.cell]
 ·intro j hj
  match j,hj with
  | 0,_ | 1,_ | 2,_ | 3,_ | 4,_ | 6,_ | 7,_ | 8,_ | 9,_=>rfl
  | 5,h=>exact absurd rfl h
  | n+10,_=>rfl
theorem rows_lat (ds:List Dc) (ns:List Nd) (lk:List Rt) (m:WM) (l:Lt):∀ j,up (wRow ds ns lk m) 9 ⟨3,1,m.s.later.length+1,tCells (m.s.later.map Lt.o ++ [l.o])⟩ j=wRow ds ns lk (m.lat l) j:=by
 refine row_up ds ns lk m (m.lat l) 9 _ ?_ ?_
 ·simp [wRow,WM.lat]
 ·intro j hj
  match j,hj with
  | 0,_ | 1,_ | 2,_ | 3,_ | 4,_ | 5,_ | 6,_ | 7,_ | 8,_=>rfl
  | 9,h=>exact absurd rfl h
  | n+10,_=>rfl
set_option maxHeartbeats 8000000 in
set_option maxRecDepth 100000 in
theorem wdelay_any (w:World) (X:Nat→Prop) (b:Nat) (pl:Int) (ds:List Dc) (ns:List Nd) (lk:List Rt) (m:WM) (h:Wr w X b pl ds ns lk m) (ts:List Tk) (n f g:Nd) (l:Lt) (hl:l.o=n.b) (hf:ns[n.a]? = some f) (hg:ns[n.b]? = some g) (hd:g.kind=2→0≤g.decl∧g.decl<(ds.length:Int)) (hrs:m.rs.length=ds.length) (hll:lk.length≤1000) (hol:m.s.ops.length≤2000) (hcl:m.s.cells.length≤2000) (hla:m.s.later.length≤2000) :
  Calls Tryz.prog 82 #[.pointer (some ⟨b,0,none⟩),n.val] w fun e w'=>
   e = .returned (.int .i64 ((wDelay (m.env ts ds pl lk) m.s f g l).2:Nat))∧Wr w' X b pl ds ns lk (m.st (wDelay (m.env ts ds pl lk) m.s f g l).1)∧Fr X w w':=by
 have HWR:=hide h
 have HXL:Hid (∀ k,X k→k<w.heap.size):=hide (by obtain ⟨v,hv⟩:=h;exact hv.xlt)
 obtain ⟨v,hv⟩:=h
 obtain ⟨hfl,hfe⟩:=List.getElem?_eq_some_iff.1 hf
 obtain ⟨hgl,hge⟩:=List.getElem?_eq_some_iff.1 hg
 obtain ⟨w1,hw1⟩:∃ w1,w1=w.alloc (ndObj n):=⟨_,rfl⟩
 obtain ⟨w2,hw2⟩:∃ w2,w2=(w1.alloc (ndObj f)).drew:=⟨_,rfl⟩
 obtain ⟨w3,hw3⟩:∃ w3,w3=(w2.alloc (ndObj g)).drew:=⟨_,rfl⟩
 have s1:w1.heap.size=w.heap.size+1:=by rw [hw1];simp
 have s2:w2.heap.size=w.heap.size+2:=by rw [hw2];show (w1.alloc (ndObj f)).heap.size=_;simp;omega
 have s3:w3.heap.size=w.heap.size+3:=by rw [hw3];show (w2.alloc (ndObj g)).heap.size=_;simp;omega
 have b1:Below w.heap.size w w1:=by rw [hw1];exact (Below.refl _ _).alloc (Nat.le_refl _) _
 have b12:Below w1.heap.size w1 w2:=by rw [hw2];exact ((Below.refl _ _).alloc (Nat.le_refl _) _).drew
 have b23:Below w2.heap.size w2 w3:=by rw [hw3];exact ((Below.refl _ _).alloc (Nat.le_refl _) _).drew
 have b2:Below w.heap.size w w2:=b1.trans (b12.mono b1.size)
 have b3:Below w.heap.size w w3:=b2.trans (b23.mono b2.size)
 have k1:w1.heap[w.heap.size]? = some (ndObj n):=by rw [hw1];exact heap_alloc_new w _
 have k2:w2.heap[w.heap.size+1]? = some (ndObj f):=by rw [hw2,← s1];exact heap_alloc_new w1 _
 have k3:w3.heap[w.heap.size+2]? = some (ndObj g):=by rw [hw3,← s2];exact heap_alloc_new w2 _
 have k12:w2.heap[w.heap.size]? = some (ndObj n):=(b12.block _ (by omega)).trans k1
 have k13:w3.heap[w.heap.size]? = some (ndObj n):=(b23.block _ (by omega)).trans k12
 have k23:w3.heap[w.heap.size+1]? = some (ndObj f):=(b23.block _ (by omega)).trans k2
 obtain ⟨a1,c1,e1,hs1⟩:=own_shape (hv.rows 1)
 obtain ⟨gn,rfl,_,hgn⟩:=hs1 (by show 0<ns.length;omega)
 have e1':v 1 = .slice (some ⟨gn,0,none⟩) ns.length c1:=e1
 have hown1:w.ownsRow 0 126 11 (.slice (some ⟨gn,0,none⟩) ns.length c1) ns.length (ndCells ns):=by rw [← e1'];exact hv.rows 1
 obtain ⟨f0,f1,f2,f3,f4,f5,f6,f7,f8,f9,f10⟩:=nd_later hown1 b1 hgn hfl f hfe.symm
 obtain ⟨g0,g1,g2,g3,g4,g5,g6,g7,g8,g9,g10⟩:=nd_later hown1 b2 hgn hgl g hge.symm
 have y1:w1.cell? ⟨b,1,none⟩=some (.slice (some ⟨gn,0,none⟩) ns.length c1):=by rw [← e1'];exact (hv.below b1).cell.2.1
 have y2:w2.cell? ⟨b,1,none⟩=some (.slice (some ⟨gn,0,none⟩) ns.length c1):=by rw [← e1'];exact (hv.below b2).cell.2.1
 have n6:w1.cell? ⟨w.heap.size,6,none⟩=some (.int .i64 (n.a:Int)):=(ndAt_of k1).c6
 have n7:w2.cell? ⟨w.heap.size,7,none⟩=some (.int .i64 (n.b:Int)):=(ndAt_of k12).c7
 have B1:∀ o,Below w.heap.size w (w1.alloc o):=fun o=>b1.alloc b1.size o
 have B2:∀ o,Below w.heap.size w (w2.alloc o):=fun o=>b2.alloc b2.size o
 have fa0:∀ o,(w1.alloc o).cell? ⟨gn,n.a * 11,none⟩=some (.int .i64 (f.kind:Int)):=fun o=>(nd_later hown1 (B1 o) hgn hfl f hfe.symm).1
 have fa1:∀ o,(w1.alloc o).cell? ⟨gn,n.a * 11+1,none⟩=some (.int .i64 (f.pos:Int)):=fun o=>(nd_later hown1 (B1 o) hgn hfl f hfe.symm).2.1
 have fa2:∀ o,(w1.alloc o).cell? ⟨gn,n.a * 11+2,none⟩=some (.int .i64 (f.value:Int)):=fun o=>(nd_later hown1 (B1 o) hgn hfl f hfe.symm).2.2.1
 have fa3:∀ o,(w1.alloc o).cell? ⟨gn,n.a * 11+3,none⟩=some (.string f.name):=fun o=>(nd_later hown1 (B1 o) hgn hfl f hfe.symm).2.2.2.1
 have fa4:∀ o,(w1.alloc o).cell? ⟨gn,n.a * 11+4,none⟩=some (.int .i64 f.decl):=fun o=>(nd_later hown1 (B1 o) hgn hfl f hfe.symm).2.2.2.2.1
 have fa5:∀ o,(w1.alloc o).cell? ⟨gn,n.a * 11+5,none⟩=some (.int .i64 (f.op:Int)):=fun o=>(nd_later hown1 (B1 o) hgn hfl f hfe.symm).2.2.2.2.2.1
 have fa6:∀ o,(w1.alloc o).cell? ⟨gn,n.a * 11+6,none⟩=some (.int .i64 (f.a:Int)):=fun o=>(nd_later hown1 (B1 o) hgn hfl f hfe.symm).2.2.2.2.2.2.1
 have fa7:∀ o,(w1.alloc o).cell? ⟨gn,n.a * 11+7,none⟩=some (.int .i64 (f.b:Int)):=fun o=>(nd_later hown1 (B1 o) hgn hfl f hfe.symm).2.2.2.2.2.2.2.1
 have fa8:∀ o,(w1.alloc o).cell? ⟨gn,n.a * 11+8,none⟩=some (.int .i64 (f.c:Int)):=fun o=>(nd_later hown1 (B1 o) hgn hfl f hfe.symm).2.2.2.2.2.2.2.2.1
 have fa9:∀ o,(w1.alloc o).cell? ⟨gn,n.a * 11+9,none⟩=some (.bool f.delayed):=fun o=>(nd_later hown1 (B1 o) hgn hfl f hfe.symm).2.2.2.2.2.2.2.2.2.1
 have fa10:∀ o,(w1.alloc o).cell? ⟨gn,n.a * 11+10,none⟩=some (.bool f.behind):=fun o=>(nd_later hown1 (B1 o) hgn hfl f hfe.symm).2.2.2.2.2.2.2.2.2.2
 have ga0:∀ o,(w2.alloc o).cell? ⟨gn,n.b * 11,none⟩=some (.int .i64 (g.kind:Int)):=fun o=>(nd_later hown1 (B2 o) hgn hgl g hge.symm).1
 have ga1:∀ o,(w2.alloc o).cell? ⟨gn,n.b * 11+1,none⟩=some (.int .i64 (g.pos:Int)):=fun o=>(nd_later hown1 (B2 o) hgn hgl g hge.symm).2.1
 have ga2:∀ o,(w2.alloc o).cell? ⟨gn,n.b * 11+2,none⟩=some (.int .i64 (g.value:Int)):=fun o=>(nd_later hown1 (B2 o) hgn hgl g hge.symm).2.2.1
 have ga3:∀ o,(w2.alloc o).cell? ⟨gn,n.b * 11+3,none⟩=some (.string g.name):=fun o=>(nd_later hown1 (B2 o) hgn hgl g hge.symm).2.2.2.1
 have ga4:∀ o,(w2.alloc o).cell? ⟨gn,n.b * 11+4,none⟩=some (.int .i64 g.decl):=fun o=>(nd_later hown1 (B2 o) hgn hgl g hge.symm).2.2.2.2.1
 have ga5:∀ o,(w2.alloc o).cell? ⟨gn,n.b * 11+5,none⟩=some (.int .i64 (g.op:Int)):=fun o=>(nd_later hown1 (B2 o) hgn hgl g hge.symm).2.2.2.2.2.1
 have ga6:∀ o,(w2.alloc o).cell? ⟨gn,n.b * 11+6,none⟩=some (.int .i64 (g.a:Int)):=fun o=>(nd_later hown1 (B2 o) hgn hgl g hge.symm).2.2.2.2.2.2.1
 have ga7:∀ o,(w2.alloc o).cell? ⟨gn,n.b * 11+7,none⟩=some (.int .i64 (g.b:Int)):=fun o=>(nd_later hown1 (B2 o) hgn hgl g hge.symm).2.2.2.2.2.2.2.1
 have ga8:∀ o,(w2.alloc o).cell? ⟨gn,n.b * 11+8,none⟩=some (.int .i64 (g.c:Int)):=fun o=>(nd_later hown1 (B2 o) hgn hgl g hge.symm).2.2.2.2.2.2.2.2.1
 have ga9:∀ o,(w2.alloc o).cell? ⟨gn,n.b * 11+9,none⟩=some (.bool g.delayed):=fun o=>(nd_later hown1 (B2 o) hgn hgl g hge.symm).2.2.2.2.2.2.2.2.2.1
 have ga10:∀ o,(w2.alloc o).cell? ⟨gn,n.b * 11+10,none⟩=some (.bool g.behind):=fun o=>(nd_later hown1 (B2 o) hgn hgl g hge.symm).2.2.2.2.2.2.2.2.2.2
 have y1a:∀ o,(w1.alloc o).cell? ⟨b,1,none⟩=some (.slice (some ⟨gn,0,none⟩) ns.length c1):=fun o=>by rw [← e1'];exact (hv.below (B1 o)).cell.2.1
 have y2a:∀ o,(w2.alloc o).cell? ⟨b,1,none⟩=some (.slice (some ⟨gn,0,none⟩) ns.length c1):=fun o=>by rw [← e1'];exact (hv.below (B2 o)).cell.2.1
 have n6a:∀ o,(w1.alloc o).cell? ⟨w.heap.size,6,none⟩=some (.int .i64 (n.a:Int)):=fun o=>(ndAt_of ((Below.heap_alloc w1 o _ (by omega)).trans k1)).c6
 have n7a:∀ o,(w2.alloc o).cell? ⟨w.heap.size,7,none⟩=some (.int .i64 (n.b:Int)):=fun o=>(ndAt_of ((Below.heap_alloc w2 o _ (by omega)).trans k12)).c7
 have N3:=hide (ndAt_of k3)
 have NG:=hide k3
 have NF:=hide k23
 have NN:=hide k13
 have i1:(0:Int)≤(n.a:Int):=by omega
 have i2:(n.a:Int)<(ns.length:Int):=by omega
 have i3:(0:Int)≤(n.b:Int):=by omega
 have i4:(n.b:Int)<(ns.length:Int):=by omega
 have HLK:=hide (wlink_any w3 X b pl ds ns lk m (HWR.out.below b3) ts m.rs g hd hll)
 have HB3:=hide b3
 have HS3:=hide s3
 have HS1:=hide s1
 have HS2:=hide s2
 have HL:=hide hl
 clear hv hf hg hfe hge e1 e1' hs1 hown1 b1 b12 b23 b2 b3 k1 k2 k3 k12 k13 k23 s1 s2 s3 hl B1 B2
 obtain ⟨p0,p1,p2,p3,p4,p5,p6,p7,p8,p9,p10⟩:=N3.out
 obtain ⟨i0,hi0,hz0,hz1,hz2⟩:=info_parts Tryz.infoIntO
 unfold ndObj at hw1 hw2 hw3
 go_enter Tryz.func82,Tryz.ntmps82
 go_wp2_with fail
 rw [← hw1]
 clear hw1
 go_big_region
 rw [← hw2]
 clear hw2 y1 n6 f0 f1 f2 f3 f4 f5 f6 f7 f8 f9 f10 fa0 fa1 fa2 fa3 fa4 fa5 fa6 fa7 fa8 fa9 fa10 y1a n6a
 go_wp2_with fail
 go_big_region
 rw [← hw3]
 clear hw3 y2 n7 g0 g1 g2 g3 g4 g5 g6 g7 g8 g9 g10 ga0 ga1 ga2 ga3 ga4 ga5 ga6 ga7 ga8 ga9 ga10 y2a n7a
 rw [HS1.out,HS2.out]
 go_wp2_with fail
 refine HLK.out.mono ?_
 rintro e w4 ⟨rfl,hb4⟩
 have h3:=HS3.out
 have HB4:=hide (HB3.out.trans (hb4.mono HB3.out.size))
 have HW4:=hide (HWR.out.below HB4.out)
 have HNN:=hide ((hb4.block w.heap.size (by omega)).trans NN.out)
 have HNF:=hide ((hb4.block (w.heap.size+1) (by omega)).trans NF.out)
 have HNG:=hide ((hb4.block (w.heap.size+2) (by omega)).trans NG.out)
 have HS4:Hid (w.heap.size+2<w4.heap.size):=hide (by have:=hb4.size;omega)
 clear p0 p1 p2 p3 p4 p5 p6 p7 p8 p9 p10 hb4 HLK NF NN NG h3 HB3 HS1 HS2 HS3 N3
 by_cases hlt:(wLink ⟨ts,ds,pl,lk,m.rs⟩ g).2=true
 ·have HF:Hid (wDelay (m.env ts ds pl lk) m.s f g l=wHand (m.env ts ds pl lk) m.s f g):=hide (if_pos hlt)
  obtain ⟨dk1,dk2⟩:=hd (link_true hlt).1
  have HH:=hide (whand_any w4 X b pl ds ns lk m HW4.out ts f g dk1 dk2 hrs hll hol)
  rw [hlt]
  obtain ⟨p0,p1,p2,p3,p4,p5,p6,p7,p8,p9,p10⟩:=ndAt_of HNF.out
  obtain ⟨r0,r1,r2,r3,r4,r5,r6,r7,r8,r9,r10⟩:=ndAt_of HNG.out
  clear hlt dk1 dk2
  go_wp2_with fail
  refine HH.out.mono ?_
  rintro e w5 ⟨rfl,hw5,hf5⟩
  go_wp2
  go_ret
  exact ⟨by rw [HF.out];rfl,by rw [HF.out];exact hw5,Fr.bel HB4.out HXL.out hf5⟩
 ·have hlf:(wLink ⟨ts,ds,pl,lk,m.rs⟩ g).2=false:=by simpa using hlt
  have HF:Hid (wDelay (m.env ts ds pl lk) m.s f g l=wCell m.s f l):=hide (if_neg hlt)
  rw [hlf]
  clear hlt hlf
  -- what is boxed stays as it is
  have hW4:=HWR.out.box HB4.out
  obtain ⟨S,hS⟩:∃ S,S=w4.heap.size:=⟨_,rfl⟩
  rw [← hS] at hW4
  have HS:=hide hS
  obtain ⟨v,hv⟩:=hW4
  obtain ⟨a5,c5,e5,_⟩:=own_shape (hv.rows 5)
  have e5':v 5 = .slice a5 m.s.cells.length c5:=e5
  have hown:w4.ownsRow 0 3 1 (.slice a5 m.s.cells.length c5) m.s.cells.length (iCells m.s.cells):=by rw [← e5'];exact hv.rows 5
  have y5:w4.cell? ⟨b,5,none⟩=some (.slice a5 m.s.cells.length c5):=by rw [← e5'];exact hv.cell.2.2.2.2.2.1
  have fz5:=hv.froz 5
  have lb:=hv.lt
  have fa:∀ o,(w4.alloc o).frozen? ⟨b,5,none⟩=false:=fun o=>by rw [World.frozen?_alloc_past _ _ _ lb];exact fz5
  have ca:∀ o,(w4.alloc o).cell? ⟨b,5,none⟩=some (.slice a5 m.s.cells.length c5):=fun o=>by rw [World.cell?_alloc_past _ _ _ lb];exact y5
  have nbv:(Value.slice a5 m.s.cells.length c5).ownBlock≠some b:=by rw [← e5'];exact hv.nb 5
  have x2:=(ndAt_of HNF.out).c2
  have HV:=hide hv
  have HE5:=hide e5'
  have HRA:=hide (rows_cell ds ns lk m ((f.value:Nat):Int))
  clear hv e5 e5' hS
  go_wp2_with fail
  go_region_law ((refine step_append_lies _ (by rfl) _ _ _ (by rfl) 0 3 i0 _ 1 8 Tryz.underlying34 hi0 hz0 hz1 hz2 rfl (by omega) (.slice a5 m.s.cells.length c5) m.s.cells.length (iCells m.s.cells) (by rfl) ((hown.alloc _).drew) ⟨w4.heap.size,0,none⟩ 1 1 [.int .i64 ((f.value:Nat):Int)] (by rfl) (by rfl) (World.news_of_block (cs:=#[.int .i64 ((f.value:Nat):Int)]) (t:=3) (fr:=(0,0)) (heap_alloc_new w4 _)) (by simp [Value.oneCell']) (by omega) (by unfold maxLen;omega) (by omega) (by simp) (w4.heap.size+1) (by simp) ?_;intro gg cap2 w5 hown3 hgrow hat hlt3;have k4:=(hgrow.cell_far ⟨b,5,none⟩ (by simp;omega) (Ne.symm nbv)).trans (ca _);have e4:=(hgrow.frozen_far ⟨b,5,none⟩ (by simp;omega) (Ne.symm nbv)).trans (fa _)))
  all_goals
   have hPa:=HV.out.below (((Below.refl w4.heap.size w4).alloc (Nat.le_refl _) (.cells #[.int .i64 ((f.value:Nat):Int)] 3)).drew)
   have hfin:=hPa.push 5 (by omega) (g:=gg) (cap:=cap2) (len:=m.s.cells.length+1) (r:=⟨3,1,m.s.cells.length+1,iCells (m.s.cells ++ [((f.value:Nat):Int)])⟩) (by rw [HE5.out];exact hgrow) (by rw [iCells_snocW];exact hown3) rfl (by rw [HE5.out];exact hat_le hat (by simp))
   obtain ⟨w6,hw6⟩:∃ w6,w6=w5.setCell ⟨b,5,none⟩ (.slice (some ⟨gg,0,none⟩) (m.s.cells.length+1) cap2):=⟨_,rfl⟩
   rw [← hw6] at hfin ⊢
   have hF6:Fr (Xn X w.heap.size S) w4 w6:=Fr.trans (Fr.of_below (((Below.refl w4.heap.size w4).alloc (Nat.le_refl _) (.cells #[.int .i64 ((f.value:Nat):Int)] 3)).drew) HV.out.xlt) hfin.2
   have hW6:Wr w6 (Xn X w.heap.size S) b pl ds ns lk (m.cell ((f.value:Nat):Int)):=⟨_,hfin.1.cast HRA.out⟩
   have HF6:=hide hF6
   have HNN6:=hide ((hF6.block w.heap.size (.inr (by have:=HS4.out;have:=HS.out;omega))).trans HNN.out)
   clear hown3 hgrow hat hPa hfin hown y5 fz5 k4 e4 hw6 x2 fa ca nbv hlt3 HV HE5 HRA hF6
   obtain ⟨v,hv⟩:=hW6
   obtain ⟨a9,c9,e9,_⟩:=own_shape (hv.rows 9)
   have e9':v 9 = .slice a9 (m.s.later.map Lt.o).length c9:=e9
   have hown:w6.ownsRow 0 3 1 (.slice a9 (m.s.later.map Lt.o).length c9) (m.s.later.map Lt.o).length (tCells (m.s.later.map Lt.o)):=by rw [← e9'];exact hv.rows 9
   have y9:w6.cell? ⟨b,9,none⟩=some (.slice a9 (m.s.later.map Lt.o).length c9):=by rw [← e9'];exact hv.cell.2.2.2.2.2.2.2.2.2
   have fz9:=hv.froz 9
   have lb6:=hv.lt
   have fa:∀ o,(w6.alloc o).frozen? ⟨b,9,none⟩=false:=fun o=>by rw [World.frozen?_alloc_past _ _ _ lb6];exact fz9
   have ca:∀ o,(w6.alloc o).cell? ⟨b,9,none⟩=some (.slice a9 (m.s.later.map Lt.o).length c9):=fun o=>by rw [World.cell?_alloc_past _ _ _ lb6];exact y9
   have nbv:(Value.slice a9 (m.s.later.map Lt.o).length c9).ownBlock≠some b:=by rw [← e9'];exact hv.nb 9
   have x7:=(ndAt_of HNN6.out).c7
   have hlm:(m.s.later.map Lt.o).length=m.s.later.length:=List.length_map _
   have HLM:=hide hlm
   have hla':(m.s.later.map Lt.o).length≤2000:=by omega
   have HV:=hide hv
   have HE9:=hide e9'
   have HRA:=hide (rows_lat ds ns lk (m.cell ((f.value:Nat):Int)) l)
   generalize (m.s.later.map Lt.o).length=ln at *
   clear hv e9 e9' hlm
   go_wp2_with fail
   go_region_law ((refine step_append_lies _ (by rfl) _ _ _ (by rfl) 0 3 i0 _ 1 8 Tryz.underlying34 hi0 hz0 hz1 hz2 rfl (by omega) (.slice a9 ln c9) ln (tCells (m.s.later.map Lt.o)) (by rfl) ((hown.alloc _).drew) ⟨w6.heap.size,0,none⟩ 1 1 [.int .i64 ((n.b:Nat):Int)] (by rfl) (by rfl) (World.news_of_block (cs:=#[.int .i64 ((n.b:Nat):Int)]) (t:=3) (fr:=(0,0)) (heap_alloc_new w6 _)) (by simp [Value.oneCell']) (by omega) (by unfold maxLen;omega) (by omega) (by simp) (w6.heap.size+1) (by simp) ?_;intro gg9 cap9 w7 hown3 hgrow hat hlt3;have k4:=(hgrow.cell_far ⟨b,9,none⟩ (by simp;omega) (Ne.symm nbv)).trans (ca _);have e4:=(hgrow.frozen_far ⟨b,9,none⟩ (by simp;omega) (Ne.symm nbv)).trans (fa _)))
   all_goals
    have hPa:=HV.out.below (((Below.refl w6.heap.size w6).alloc (Nat.le_refl _) (.cells #[.int .i64 ((n.b:Nat):Int)] 3)).drew)
    have hfin:=hPa.push 9 (by omega) (g:=gg9) (cap:=cap9) (len:=ln+1) (r:=⟨3,1,m.s.later.length+1,tCells (m.s.later.map Lt.o ++ [l.o])⟩) (by rw [HE9.out];exact hgrow) (by rw [tCells_snoc,HL.out];exact hown3) (by have:=HLM.out;show m.s.later.length+1=ln+1;omega) (by rw [HE9.out];exact hat_le hat (by simp))
    obtain ⟨w8,hw8⟩:∃ w8,w8=w7.setCell ⟨b,9,none⟩ (.slice (some ⟨gg9,0,none⟩) (ln+1) cap9):=⟨_,rfl⟩
    rw [← hw8] at hfin ⊢
    have hF8:Fr (Xn X w.heap.size S) w6 w8:=Fr.trans (Fr.of_below (((Below.refl w6.heap.size w6).alloc (Nat.le_refl _) (.cells #[.int .i64 ((n.b:Nat):Int)] 3)).drew) HV.out.xlt) hfin.2
    have hW8:Wr w8 (Xn X w.heap.size S) b pl ds ns lk ((m.cell ((f.value:Nat):Int)).lat l):=⟨_,hfin.1.cast HRA.out⟩
    have HF8:=hide (HF6.out.trans hF8)
    have HAD:=hide (wadd_any w8 _ b pl ds ns lk _ hW8 ⟨3,(m.s.cells.length:Nat),0,0⟩ (by show m.s.ops.length≤3000;omega))
    clear hown3 hgrow hat hPa hfin hown y9 fz9 k4 e4 hw8 x7 fa ca nbv hlt3 HV HE9 HRA hF8 hW8
    go_wp2_with fail
    refine HAD.out.mono ?_
    rintro e w9 ⟨rfl,hw9,hf9⟩
    go_wp2
    go_ret
    exact ⟨by rw [HF.out];rfl,by rw [HF.out];exact hw9.less (fun _ hk=>.inl hk),Fr.bel HB4.out HXL.out (HF8.out.trans hf9).xn⟩
end Go.Proofs.YtecegaflhdgfaaaGreat
