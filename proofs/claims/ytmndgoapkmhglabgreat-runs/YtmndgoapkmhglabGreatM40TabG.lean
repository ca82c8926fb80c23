import Derived.Test.YtmndgoapkmhglabGreatM28RefW
import Derived.Test.YtmndgoapkmhglabGreatM31LawP
import Derived.Test.YtmndgoapkmhglabGreatM34TabE
import Derived.Test.YtmndgoapkmhglabGreatM39RefY
namespace Go.Proofs.YtmndgoapkmhglabGreat
open Go.RowKit
attribute [local go_sem ↓] Go.wp_at_zero Go.wp_at_succ
set_option maxHeartbeats 4000000 in
set_option maxRecDepth 100000 in
theorem rinstant_any (w0 w:World) (tb q g cap:Nat) (ts:List Tk) (L:List Dl) (vE vA vI vQ vX:Value) (ins:List (List Int)) (aR:Option Addr) (gr rc N:Nat) (R:Nat→Nat) (F:Nat→Nat→Int) (now:Nat) (vD:Value)
  (h:RTabB w0 w tb q g cap ts L vE vA vI vQ vX ins aR gr rc N R F now vD) (H:Right ts L) (ho:ROk ts L) (hN:now<N) (hN2:N≤1000000) (hF:∀ j k,j<(eqL L).length→k<now→F j k=sol ts L ins j k) :
  Calls Tryz.prog 46 #[.pointer (some ⟨tb,0,none⟩)] w fun e w'=>e = .returned (.tuple #[])∧∃ (F':Nat→Nat→Int) (vD':Value),RTabB w0 w' tb q g cap ts L vE vA vI vQ vX ins aR gr rc N R F' (now+1) vD'∧∀ j k,j<(eqL L).length→k<now+1→F' j k=sol ts L ins j k:=by
 obtain ⟨hf1,hf2⟩:=H.few
 obtain ⟨aq,cq,rfl,hshq⟩:=own_shape h.prog.eqs
 have hm2:=run_make_row' (P:=Tryz.prog) 110 4 (.bool false) 1 Tryz.underlying110 Tryz.infoBool rfl .i64 .i64 (eqL L).length (by omega) (by omega)
 have b0:=h.c0
 have p4:=(h.prog.below h.bel).c4
 have f4:∀ o,(w.alloc o).frozen? ⟨tb,4,none⟩=false:=fun o=>(h.below ((Below.refl _ _).alloc (Nat.le_refl _) o)).froz 4
 have b4:∀ o,(w.alloc o).cell? ⟨tb,4,none⟩=some vD:=fun o=>(h.below ((Below.refl _ _).alloc (Nat.le_refl _) o)).c4
 have HT0:=hide h.marks
 have HP0:=hide (Pass.first hF)
 have HQ:=hide hshq
 have HH:=hide H
 have HO:=hide ho
 have HPR:Hid (RProg w0 q g cap ts L vE vA vI (.slice aq (eqL L).length cq)):=hide h.prog
 clear h hF hshq H ho
 go_enter Tryz.func46,Tryz.ntmps46
 go_wp2
 go_loopw [2] (fun vp wr=>∃ (p:Nat) (F:Nat→Nat→Int) (gd:Nat) (D:Nat→Bool),p≤(eqL L).length∧vp = .int .i64 p∧RTab w0 wr tb q g cap ts L vE vA vI (.slice aq (eqL L).length cq) vX ins aR gr rc N R F now gd D∧Pass ts L ins F D now p 0) (fun vp _=>(eqL L).length - (intOf vp).toNat)
 case atStart=>exact ⟨0,F,w.heap.size,fun _=>false,Nat.zero_le _,rfl,HT0.out,HP0.out⟩
 case round=>
  clear HT0 HP0 hm2 b0 p4 f4 b4
  obtain ⟨p,F,gd,D,hp,rfl,hT,hP⟩:=hrel
  have b0:=hT.c0
  have b3:=hT.c3
  have p4:=(HPR.out.below hT.bel).c4
  have f3:=hT.froz 3
  have HT:=hide hT
  have HP:=hide hP
  clear hT hP
  by_cases hpl:p<(eqL L).length
  ·have z1:(p:Int)<((eqL L).length:Int):=by omega
   clear b3 f3
   go_wp2
   go_loopw [3] (fun vi wx=>∃ (i:Nat) (F:Nat→Nat→Int) (gd:Nat) (D:Nat→Bool),i≤(eqL L).length∧vi = .int .i64 i∧RTab w0 wx tb q g cap ts L vE vA vI (.slice aq (eqL L).length cq) vX ins aR gr rc N R F now gd D∧Pass ts L ins F D now p i) (fun vi _=>(eqL L).length - (intOf vi).toNat)
   case atStart=>exact ⟨0,F,gd,D,Nat.zero_le _,rfl,by first | exact HT.out | exact HT.out.below (below_drewN (Below.refl _ _) _),HP.out⟩
   case round=>
    clear b0 p4 HT HP
    obtain ⟨i,F,gd,D,hi,rfl,hT,hP⟩:=hrel
    have b0:=hT.c0
    have b4:=hT.c4
    have p4:=(HPR.out.below hT.bel).c4
    have HT:=hide hT
    have HP:=hide hP
    by_cases hil:i<(eqL L).length
    ·obtain ⟨gq,rfl,_,hgq⟩:=HQ.out (by omega)
     have har:=hT.aR (by omega)
     subst har
     have j3:(0:Int)≤(i:Int):=by omega
     have j4:(i:Int)<((eqL L).length:Int):=by omega
     have d1:=hT.done.cell hil
     obtain ⟨x,hx⟩:∃ x,x=(eqL L)[i]'hil:=⟨_,rfl⟩
     obtain ⟨hxm,hxk,hsp,hxl,hxp⟩:=HO.out.eq (x:=x) (by rw [hx];exact List.getElem_mem hil)
     obtain ⟨_,e5,_⟩:=rdc_truth ts hxk
     obtain ⟨_,_,_,_,_,y5⟩:=rd_later HPR.out.eqs hT.bel hgq hil (rdc ts x) (by rw [hx])
     rw [e5] at y5
     have b3:=hT.c3
     have HNX:=hide (fun hd=>Pass.next HH.out HP.out hil hd)
     rw [← hx] at HNX
     have HCALL:=hide (fun W hW=>rvalue_any w0 tb q g cap ts L vE vA vI (.slice (some ⟨gq,0,none⟩) (eqL L).length cq) vX ins (some ⟨gr,0,none⟩) gr rc N R F now gd D HH.out HO.out hN hN2 x.t.size x.t (x.i+5) now W (Nat.le_refl _) hW hsp (by omega) (Nat.le_refl _))
     have HSK:=hide (fun hd=>HP.out.skip (hd:D i=true))
     have HDI:Hid (D i=D i):=hide rfl
     generalize evR ts (knR ts L ins F D now) x.t (x.i+5) now=r at HCALL HNX
     obtain ⟨v,ok⟩:=r
     simp only [vOk] at HCALL HNX
     clear hT hP hx hsp hxm hxk hxp e5
     generalize x.i+5=bd at y5 HCALL
     by_cases hd:D i=true
     ·rw [hd] at d1
      have HS:=hide (HSK.out hd)
      clear HNX HSK HCALL hd y5 b3
      go_wp2
      go_roundw
      case rel=>exact ⟨i+1,F,gd,D,by omega,by go_num,by first | exact HT.out | exact HT.out.below (below_drewN (Below.refl _ _) _),HS.out⟩
      case measure=>simp [intOf];omega
     ·have hdf:D i=false:=by simpa using hd
      rw [hdf] at d1
      have HN:=hide (HNX.out hdf)
      clear HNX HSK hd hdf
      have g1:tb<wr.heap.size:=HT.out.lt
      have g2:q<wr.heap.size:=Nat.lt_of_lt_of_le HPR.out.lt HT.out.bel.size
      have g3:gq<wr.heap.size:=Nat.lt_of_lt_of_le hgq HT.out.bel.size
      go_wp2_with fail
      go_region_held3 (fun w'=>w'.cell? ⟨tb,0,none⟩=some (.pointer (some ⟨q,0,none⟩))∧w'.cell? ⟨q,4,none⟩=some (.slice (some ⟨gq,0,none⟩) (eqL L).length cq)∧w'.cell? ⟨gq,i * 6+5,none⟩=some (.int .i64 (bd:Int))∧w'.cell? ⟨tb,3,none⟩=some (.int .i64 (now:Int))) (go_keep)
       ((go_at_call 79;refine (HCALL.out _ (HT.out.below ((Below.refl _ _).drew))).mono ?_;rintro e w1 ⟨rfl,hb1⟩;have t1:=(hb1.cell (p:=⟨tb,0,none⟩) g1).trans b0;have t2:=(hb1.cell (p:=⟨q,4,none⟩) g2).trans p4;have t3:=(hb1.cell (p:=⟨gq,i * 6+5,none⟩) g3).trans y5;have t4:=(hb1.cell (p:=⟨tb,3,none⟩) g1).trans b3))
      rename_i hHeld
      clear hHeld t1 t2 t3 t4
      have hT1:RTab w0 w1 tb q g cap ts L vE vA vI (.slice (some ⟨gq,0,none⟩) (eqL L).length cq) vX ins (some ⟨gr,0,none⟩) gr rc N R F now gd D:=(HT.out.below ((Below.refl _ _).drew)).below hb1
      have u0:=hT1.c2
      have u3:=hT1.c3
      have u4:=hT1.c4
      have o1:=hT1.mat.outer i hil
      have o2:=hT1.mat.cell (i:=i) (j:=now) hil hN
      have o3:=hT1.mat.froz hil now
      have hT2:=hT1.put hil now v
      have HT3:=hide (hT2.mark i ok)
      have v4:=hT2.c4
      have v1:=hT2.done.cell hil
      have v2:=hT2.done.frozen i
      have j5:(0:Int)≤(now:Int):=by omega
      have j6:(now:Int)<(N:Int):=by omega
      clear hT1 hT2 hb1 HCALL HT HP b0 b3 b4 p4 y5 d1
      go_wp2_with fail
      go_big_region
      go_wp2
      go_roundw
      case rel=>exact ⟨i+1,_,gd,_,by omega,by go_num,by first | exact HT3.out | exact HT3.out.below (below_drewN (Below.refl _ _) _),HN.out⟩
      case measure=>simp [intOf];omega
    ·have ei:i=(eqL L).length:=by omega
     subst ei
     have z2:¬ ((eqL L).length:Int)<((eqL L).length:Int):=by omega
     clear hT hP
     go_wp2
     go_roundw
     case rel=>exact ⟨p+1,F,gd,D,by omega,by go_num,by first | exact HT.out | exact HT.out.below (below_drewN (Below.refl _ _) _),HP.out.over⟩
     case measure=>simp [intOf];omega
  ·have ep:p=(eqL L).length:=by omega
   subst ep
   have z2:¬ ((eqL L).length:Int)<((eqL L).length:Int):=by omega
   have HL:=hide (HP.out.last HH.out)
   have HK:=hide HT.out.toRTabB.tick
   clear HP
   go_wp2
   go_end0
   exact ⟨rfl,F,⟨_,HK.out⟩,HL.out⟩
theorem Tryz.infoInts:(Tryz.prog.info? 36).map (fun i=>(i.zero,i.size,i.bytes))=some (some (.slice none 0 0),1,24):=by kernel_rfl
theorem rows_mat {w':World}{B m n:Nat}{v:Value}{rs:List Nat} (hl:rs.length=m) (hown:w'.ownsRow B 36 1 v m (rowSl n rs)) (hrows:∀ r∈rs,B≤r∧v.ownBlock≠some r∧w'.rowIs r 3 n (fun _=>.int .i64 0)) (hnd:rs.Nodup) :
  ∃ (a:Option Addr) (g cap:Nat) (R:Nat→Nat),v = .slice a m cap∧(0<m→a=some ⟨g,0,none⟩∧v.ownBlock=some g)∧MatI w' g m n R (fun _ _=>0)∧(∀ i,i<m→B≤R i∧R i∈rs)∧B≤g:=by
 rcases Nat.eq_zero_or_pos m with hz | hp
 ·obtain ⟨a,cap,hv,_⟩:=own_shape hown
  refine ⟨a,B,cap,fun _=>0,hv,fun h=>by omega,⟨fun i hi=>by omega,fun i hi=>by omega,fun i j hi=>by omega,fun i hi=>by omega⟩,fun i hi=>by omega,Nat.le_refl _⟩
 ·obtain ⟨g,cap,rfl,h1,h2⟩:=hown.form hp
  have hat:∀ i,(hi:i<m)→rs[i]'(by omega)∈rs:=fun i hi=>List.getElem_mem _
  have hgd:∀ i,(hi:i<m)→rs.getD i 0=rs[i]'(by omega):=fun i hi=>by rw [List.getD_eq_getElem?_getD,List.getElem?_eq_getElem (by omega)];rfl
  refine ⟨some ⟨g,0,none⟩,g,cap,fun i=>rs.getD i 0,rfl,fun _=>⟨rfl,rfl⟩,⟨fun i hi=>?_,fun i hi=>?_,fun i j hi hj e=>?_,fun i hi e=>?_⟩,fun i hi=>?_,h1⟩
  ·rw [hown.cellAt i (by omega)]
   unfold rowSl
   rw [List.getElem?_map,List.getElem?_eq_getElem (by omega)]
   show some _=some (Value.slice (some ⟨rs.getD i 0,0,none⟩) n n)
   rw [hgd i hi]
  ·show w'.rowIs (rs.getD i 0) _ _ _
   rw [hgd i hi]
   exact (hrows _ (hat i hi)).2.2
  ·have e':rs.getD i 0=rs.getD j 0:=e
   rw [hgd i hi,hgd j hj] at e'
   rcases Nat.lt_trichotomy i j with hh | hh | hh
   ·exact absurd e' ((List.pairwise_iff_getElem.1 hnd) i j (by omega) (by omega) hh)
   ·exact hh
   ·exact absurd e'.symm ((List.pairwise_iff_getElem.1 hnd) j i (by omega) (by omega) hh)
  ·have e':rs.getD i 0=g:=e
   rw [hgd i hi] at e'
   exact (hrows _ (hat i hi)).2.1 (by rw [e'];rfl)
  ·show B≤rs.getD i 0∧rs.getD i 0∈rs
   rw [hgd i hi]
   exact ⟨(hrows _ (hat i hi)).1,hat i hi⟩
structure Made (w wr:World) (q n k:Nat) (vX:Value) (v:Value) (rs:List Nat):Prop where
 bel:Below w.heap.size w wr
 lt:w.heap.size<wr.heap.size
 blk:wr.heap[w.heap.size]? = some (.cells #[.pointer (some ⟨q,0,none⟩),vX,v,.int .i64 0,.slice none 0 0] 112)
 len:rs.length=k
 own:wr.ownsRow (w.heap.size+1) 36 1 v k (rowSl n rs)
 rows:∀ r∈rs,w.heap.size+1≤r∧v.ownBlock≠some r∧wr.rowIs r 3 n (fun _=>.int .i64 0)
 nd:rs.Nodup
set_option maxHeartbeats 4000000 in
set_option maxRecDepth 100000 in
theorem rstreams_any (w:World) (q g cap:Nat) (ts:List Tk) (L:List Dl) (vE vA vI vQ vX:Value) (ins:List (List Int)) (h:RProg w q g cap ts L vE vA vI vQ) (hX:LsAt w vX ins) (H:Right ts L) (ho:ROk ts L) (n:Nat) (hn:n≤201) :
  Calls Tryz.prog 21 #[.pointer (some ⟨q,0,none⟩),vX,.int .i64 (n:Int)] w fun e w'=>∃ v,e = .returned v∧Outs w.heap.size w' v (eqL L).length n (sol ts L ins)∧Below w.heap.size w w':=by
 obtain ⟨i0,hi0,hz0,hz1,hz2⟩:=info_parts Tryz.infoInts
 obtain ⟨hf1,hf2⟩:=H.few
 obtain ⟨aq,cq,rfl,hshq⟩:=own_shape h.eqs
 have hX':=hX
 obtain ⟨aX,cX,rfl,_,_⟩:=hX'
 have hm2:=run_make_row' (P:=Tryz.prog) 36 3 (.int .i64 0) 8 Tryz.underlying36 Tryz.infoInt rfl .i64 .i64 n (by omega) (by omega)
 have HR:=hide h
 have HX:=hide hX
 have HH:=hide H
 have HO:=hide ho
 have hqlt:=h.lt
 clear h hX H ho hshq
 go_enter Tryz.func21,Tryz.ntmps21
 go_wp2
 go_loopw [8] (fun vi wr=>∃ (k:Nat) (v:Value) (rs:List Nat),k≤(eqL L).length∧vi = .int .i64 k∧Made w wr q n k (.slice aX ins.length cX) v rs) (fun vi _=>(eqL L).length - (intOf vi).toNat)
 case atStart=>
  exact ⟨0,.slice none 0 0,[],Nat.zero_le _,rfl,⟨(Below.refl _ _).alloc (Nat.le_refl _) _,by simp,heap_alloc_new w _,rfl,World.ownsRow_nil _ _ _ _,fun r hr=>by simp at hr,List.nodup_nil⟩⟩
 case round=>
  obtain ⟨k,v,rs,hk,rfl,hM⟩:=hrel
  have p4:=(HR.out.below hM.bel).c4
  have hbs:=hM.lt
  have HM:=hide hM
  by_cases hkl:k<(eqL L).length
  ·have hq:=hM.lt
   have c2:wr.cell? ⟨w.heap.size,2,none⟩=some v:=cell_of_row wr w.heap.size 2 _ _ _ hM.blk
   have f2:wr.frozen? ⟨w.heap.size,2,none⟩=false:=frozen_of_row wr w.heap.size 2 _ _ hM.blk
   have c2a:∀ o,(wr.alloc o).cell? ⟨w.heap.size,2,none⟩=some v:=fun o=>by rw [World.cell?_alloc_past _ _ _ hq];exact c2
   have ca:∀ o o',((wr.alloc o).alloc o').cell? ⟨w.heap.size,2,none⟩=some v:=fun o o'=>by rw [World.cell?_alloc_past _ _ _ (by simp;omega)];exact c2a o
   have fa:∀ o o',((wr.alloc o).alloc o').frozen? ⟨w.heap.size,2,none⟩=false:=fun o o'=>by rw [World.frozen?_alloc_past _ _ _ (by simp;omega),World.frozen?_alloc_past _ _ _ hq];exact f2
   have hown:=hM.own
   have nbv:v.ownBlock≠some w.heap.size:=fun e=>by have:=(hM.own.lt _ e).1;omega
   have j4:(k:Int)<((eqL L).length:Int):=by omega
   clear hM
   go_wp2_with (at_builtin;refine wpList_append_lies _ rfl _ _ _ rfl (w.heap.size+1) 36 i0 _ 1 24 Tryz.underlying22 hi0 hz0 hz1 hz2 rfl (by omega) v k (rowSl n rs) rfl ((hown.alloc _).alloc _) ⟨wr.heap.size+1,0,none⟩ 1 1 [.slice (some ⟨wr.heap.size,0,none⟩) n n] rfl rfl (World.news_of_block (cs:=#[.slice (some ⟨wr.heap.size,0,none⟩) n n]) (t:=36) (fr:=(0,0)) (by have:=heap_alloc_new (wr.alloc (.cells (madeCells #[.int .i64 0] n) 3)) (.cells #[.slice (some ⟨wr.heap.size,0,none⟩) n n] 36);simpa using this)) (by simp [Value.oneCell']) (by omega) (by unfold maxLen;omega) (by omega) (by simp;omega) (wr.heap.size+2) (by simp) ?_;intro gg cap2 w3 hown3 hgrow hat hlt3;have k4:=(hgrow.cell_far ⟨w.heap.size,2,none⟩ (by simp;omega) (Ne.symm nbv)).trans (ca _ _);have g4:=(hgrow.frozen_far ⟨w.heap.size,2,none⟩ (by simp;omega) (Ne.symm nbv)).trans (fa _ _))
   go_roundw
   case rel=>
    have hM:=HM.out
    have hsz3:=hgrow.size
    simp at hsz3
    have hnr:∀ r∈rs,r<wr.heap.size:=fun r hr=>World.rowIs.lt (hM.rows r hr).2.2
    have ggB:w.heap.size+1≤gg:=by
     rcases hat with hat | hat
     ·exact (hown.lt _ hat).1
     ·omega
    have oth:∀ b,b≠w.heap.size→(w3.setCell ⟨w.heap.size,2,none⟩ (.slice (some ⟨gg,0,none⟩) (k+1) cap2)).heap[b]? = w3.heap[b]?:=fun b hb=>heap_setCell_other _ ⟨w.heap.size,2,none⟩ b _ hb
    have hg2:w3.grownBy (w3.setCell ⟨w.heap.size,2,none⟩ (.slice (some ⟨gg,0,none⟩) (k+1) cap2)) (some w.heap.size):=⟨rfl,rfl,rfl,by simp,fun b _ hb=>oth b (fun e=>hb (by simp [e]))⟩
    refine ⟨k+1,.slice (some ⟨gg,0,none⟩) (k+1) cap2,rs ++ [wr.heap.size],by omega,by go_num,⟨?_,?_,?_,?_,?_,?_,?_⟩⟩
    ·exact (((hM.bel.alloc hM.bel.size _).alloc (by simp;omega) _).grown hgrow (by simp;omega) (fun j hj=>by have:=ownBlock_ge hown j hj;omega)).setCell (Nat.le_refl _) _
    ·simp;omega
    ·rw [heap_setCell_same w3 w.heap.size 2 _ _ _ (((hgrow.block w.heap.size (by simp;omega) (Ne.symm nbv)).trans (by rw [Below.heap_alloc _ _ _ (by simp;omega),Below.heap_alloc _ _ _ hq])).trans hM.blk)];rfl
    ·rw [List.length_append,hM.len];rfl
    ·rw [rowSl_snoc]
     exact hown3.kept hg2 (.inr (by simp [Value.ownBlock];omega))
    ·intro r hr
     rcases List.mem_append.1 hr with hr | hr
     ·obtain ⟨h1,h2,h3⟩:=hM.rows r hr
      have hrl:=hnr r hr
      refine ⟨h1,?_,?_⟩
      ·intro e
       have e':gg=r:=by simpa [Value.ownBlock] using e
       rcases hat with hat | hat
       ·rw [e'] at hat;exact h2 hat
       ·omega
      ·refine World.rowIs.of_block ((h3.alloc _).alloc _) ((oth r (by omega)).trans (hgrow.block r (by simp;omega) (fun e=>h2 e.symm)))
     ·rw [List.mem_singleton] at hr
      subst hr
      refine ⟨by omega,?_,?_⟩
      ·intro e
       have e':gg=wr.heap.size:=by simpa [Value.ownBlock] using e
       rcases hat with hat | hat
       ·rw [e'] at hat;have:=(hown.lt _ hat).2;omega
       ·omega
      ·refine World.rowIs.of_block ((World.rowIs_made wr (.int .i64 0) n 3).alloc _) ((oth wr.heap.size (by omega)).trans (hgrow.block wr.heap.size (by simp;omega) (fun e=>by have:=(hown.lt _ e.symm).2;omega)))
    ·rw [List.nodup_append]
     refine ⟨hM.nd,by simp,fun a ha b hb=>?_⟩
     rw [List.mem_singleton] at hb
     have:=hnr a ha
     omega
   case measure=>simp [intOf];omega
  ·have ek:k=(eqL L).length:=by omega
   subst ek
   have z1:¬ ((eqL L).length:Int)<((eqL L).length:Int):=by omega
   obtain ⟨a,gr,rc,R,rfl,ha,hmat,hRB,hgB⟩:=rows_mat hM.len hM.own hM.rows hM.nd
   have hT:RTabB w wr w.heap.size q g cap ts L vE vA vI (.slice aq (eqL L).length cq) (.slice aX ins.length cX) ins a gr rc n R (fun _ _=>0) 0 (.slice none 0 0):=
    ⟨hM.bel,HR.out,HX.out,Nat.le_refl _,hM.lt,hM.blk,fun hp=>(ha hp).1,hmat,fun _=>by omega,fun i hi=>by have:=(hRB i hi).1;omega,fun _=>by omega,fun i hi=>by have:=(hRB i hi).1;omega⟩
   have HT:=hide hT
   have HAA:=hide ha
   have HRB:=hide hRB
   clear hT hM HM ha hmat hRB hm2
   go_wp2
   go_loopw [10] (fun vk wx=>∃ (j:Nat) (F:Nat→Nat→Int) (vD:Value),j≤n∧vk = .int .i64 j∧RTabB w wx w.heap.size q g cap ts L vE vA vI (.slice aq (eqL L).length cq) (.slice aX ins.length cX) ins a gr rc n R F j vD∧∀ i k,i<(eqL L).length→k<j→F i k=sol ts L ins i k) (fun vk _=>n - (intOf vk).toNat)
   case atStart=>exact ⟨0,fun _ _=>0,.slice none 0 0,Nat.zero_le _,rfl,by first | exact HT.out | exact HT.out.below (below_drewN (Below.refl _ _) _),fun i k _ hk=>by omega⟩
   case round=>
    clear HT
    obtain ⟨j,F,vD,hj,rfl,hT,hF⟩:=hrel
    by_cases hjn:j<n
    ·have z2:(j:Int)<(n:Int):=by omega
     have HCALL:=hide (fun W hW=>rinstant_any w W w.heap.size q g cap ts L vE vA vI (.slice aq (eqL L).length cq) (.slice aX ins.length cX) ins a gr rc n R F j vD hW HH.out HO.out hjn (by omega) hF)
     have HT:=hide hT
     clear hT hF
     go_wp2_with fail
     refine (HCALL.out _ (by first | exact HT.out | exact HT.out.below (below_drewN (Below.refl _ _) _))).mono ?_
     rintro e w1 ⟨rfl,F',vD',hT',hF'⟩
     have HT':=hide hT'
     have HF':=hide hF'
     clear hT' hF' HCALL HT
     go_wp2
     go_roundw
     case rel=>exact ⟨j+1,F',vD',by omega,by go_num,by first | exact HT'.out | exact HT'.out.below (below_drewN (Below.refl _ _) _),HF'.out⟩
     case measure=>simp [intOf];omega
    ·have ej:j=n:=by omega
     subst ej
     have z2:¬ (j:Int)<(j:Int):=by omega
     have c2:=hT.c2
     have HT:=hide hT
     have HF:=hide hF
     clear hT hF
     go_wp2
     go_ret
     exact ⟨_,rfl,⟨⟨a,gr,rc,R,rfl,fun hp=>(HAA.out hp).1,HT.out.mat.congr (fun i k hi hk=>HF.out i k hi hk),fun i hi=>by have:=(HRB.out i hi).1;omega,by omega⟩⟩,HT.out.bel⟩
end Go.Proofs.YtmndgoapkmhglabGreat
