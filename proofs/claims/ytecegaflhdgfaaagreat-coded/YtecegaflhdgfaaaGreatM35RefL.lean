import Derived.Test.YtecegaflhdgfaaaGreatM33TabC
import Derived.Test.YtecegaflhdgfaaaGreatM34TabE
namespace Go.Proofs.YtecegaflhdgfaaaGreat
open Go.RowKit
attribute [local go_sem ↓] Go.wp_at_zero Go.wp_at_succ
set_option maxHeartbeats 4000000 in
set_option maxRecDepth 100000 in
theorem rinstant_any (w0 w:World) (tb q g cap:Nat) (ts:List Tk) (L:List Dl) (vE vA vI vQ vX:Value) (ins:List (List Int)) (aR:Option Addr) (gr rc N:Nat) (R:Nat→Nat) (F:Nat→Nat→Int) (now:Nat) (vD:Value)
  (h:RTabB w0 w tb q g cap ts L vE vA vI vQ vX ins aR gr rc N R F now vD) (H:Right ts L) (ho:ROk ts L) (hN:now<N) (hN2:N≤1000000) (hF:∀ j k,j<(eqL L).length→k<now→F j k=sol ts L ins j k) :
  Calls Tryz.prog 47 #[.pointer (some ⟨tb,0,none⟩)] w fun e w'=>e = .returned (.tuple #[])∧∃ (F':Nat→Nat→Int) (vD':Value),RTabB w0 w' tb q g cap ts L vE vA vI vQ vX ins aR gr rc N R F' (now+1) vD'∧∀ j k,j<(eqL L).length→k<now+1→F' j k=sol ts L ins j k:=by
 obtain ⟨hf1,hf2⟩:=H.few
 obtain ⟨aq,cq,rfl,hshq⟩:=own_shape h.prog.eqs
 have hm2:=run_make_row' (P:=Tryz.prog) 97 4 (.bool false) 1 Tryz.underlying97 Tryz.infoBool rfl .i64 .i64 (eqL L).length (by omega) (by omega)
 have b0:=h.c0
 have p4:=(h.prog.below h.bel).c4
 have f4:∀ o,(w.alloc o).frozen? ⟨tb,4,none⟩=false:=fun o=>(h.below ((Below.refl _ _).alloc (Nat.le_refl _) o)).froz 4
 have b4:∀ o,(w.alloc o).cell? ⟨tb,4,none⟩=some vD:=fun o=>(h.below ((Below.refl _ _).alloc (Nat.le_refl _) o)).c4
 have HT0:=hide h.marks
 have HP0:=hide (Pass.first hF)
 have HQ:=hide hshq
 have HH:=hide H
 have HO:=hide ho
 have HPR:Hid (RProg w0 q g cap ts L vE vA vI (.slice aq (eqL L).length cq)):=hide h.prog
 clear h hF hshq H ho
 go_enter Tryz.func47,Tryz.ntmps47
 go_wp2
 go_loopw [2] (fun vp wr=>∃ (p:Nat) (F:Nat→Nat→Int) (gd:Nat) (D:Nat→Bool),p≤(eqL L).length∧vp = .int .i64 p∧RTab w0 wr tb q g cap ts L vE vA vI (.slice aq (eqL L).length cq) vX ins aR gr rc N R F now gd D∧Pass ts L ins F D now p 0) (fun vp _=>(eqL L).length - (intOf vp).toNat)
 case atStart=>exact ⟨0,F,w.heap.size,fun _=>false,Nat.zero_le _,rfl,HT0.out,HP0.out⟩
 case round=>
  clear HT0 HP0 hm2 b0 p4 f4 b4
  obtain ⟨p,F,gd,D,hp,rfl,hT,hP⟩:=hrel
  have b0:=hT.c0
  have b3:=hT.c3
  have p4:=(HPR.out.below hT.bel).c4
  have f3:=hT.froz 3
  have HT:=hide hT
  have HP:=hide hP
  clear hT hP
  by_cases hpl:p<(eqL L).length
  ·have z1:(p:Int)<((eqL L).length:Int):=by omega
   clear b3 f3
   go_wp2
   go_loopw [3] (fun vi wx=>∃ (i:Nat) (F:Nat→Nat→Int) (gd:Nat) (D:Nat→Bool),i≤(eqL L).length∧vi = .int .i64 i∧RTab w0 wx tb q g cap ts L vE vA vI (.slice aq (eqL L).length cq) vX ins aR gr rc N R F now gd D∧Pass ts L ins F D now p i) (fun vi _=>(eqL L).length - (intOf vi).toNat)
   case atStart=>exact ⟨0,F,gd,D,Nat.zero_le _,rfl,by first | exact HT.out | exact HT.out.below (below_drewN (Below.refl _ _) _),HP.out⟩
   case round=>
    clear b0 p4 HT HP
    obtain ⟨i,F,gd,D,hi,rfl,hT,hP⟩:=hrel
    have b0:=hT.c0
    have b4:=hT.c4
    have p4:=(HPR.out.below hT.bel).c4
    have HT:=hide hT
    have HP:=hide hP
    by_cases hil:i<(eqL L).length
    ·obtain ⟨gq,rfl,_,hgq⟩:=HQ.out (by omega)
     have har:=hT.aR (by omega)
     subst har
     have j3:(0:Int)≤(i:Int):=by omega
     have j4:(i:Int)<((eqL L).length:Int):=by omega
     have d1:=hT.done.cell hil
     obtain ⟨x,hx⟩:∃ x,x=(eqL L)[i]'hil:=⟨_,rfl⟩
     obtain ⟨hxm,hxk,hsp,hxl,hxp⟩:=HO.out.eq (x:=x) (by rw [hx];exact List.getElem_mem hil)
     obtain ⟨_,e5,_⟩:=rdc_truth ts hxk
     obtain ⟨_,_,_,_,_,y5⟩:=rd_later HPR.out.eqs hT.bel hgq hil (rdc ts x) (by rw [hx])
     rw [e5] at y5
     have b3:=hT.c3
     have HNX:=hide (fun hd=>Pass.next HH.out HP.out hil hd)
     rw [← hx] at HNX
     have HCALL:=hide (fun W hW=>rvalue_any w0 tb q g cap ts L vE vA vI (.slice (some ⟨gq,0,none⟩) (eqL L).length cq) vX ins (some ⟨gr,0,none⟩) gr rc N R F now gd D HH.out HO.out hN hN2 x.t.size x.t (x.i+5) now W (Nat.le_refl _) hW hsp (by omega) (Nat.le_refl _))
     have HSK:=hide (fun hd=>HP.out.skip (hd:D i=true))
     have HDI:Hid (D i=D i):=hide rfl
     generalize evR ts (knR ts L ins F D now) x.t (x.i+5) now=r at HCALL HNX
     obtain ⟨v,ok⟩:=r
     simp only [vOk] at HCALL HNX
     clear hT hP hx hsp hxm hxk hxp e5
     generalize x.i+5=bd at y5 HCALL
     by_cases hd:D i=true
     ·rw [hd] at d1
      have HS:=hide (HSK.out hd)
      clear HNX HSK HCALL hd y5 b3
      go_wp2
      go_roundw
      case rel=>exact ⟨i+1,F,gd,D,by omega,by go_num,by first | exact HT.out | exact HT.out.below (below_drewN (Below.refl _ _) _),HS.out⟩
      case measure=>simp [intOf];omega
     ·have hdf:D i=false:=by simpa using hd
      rw [hdf] at d1
      have HN:=hide (HNX.out hdf)
      clear HNX HSK hd hdf
      have g1:tb<wr.heap.size:=HT.out.lt
      have g2:q<wr.heap.size:=Nat.lt_of_lt_of_le HPR.out.lt HT.out.bel.size
      have g3:gq<wr.heap.size:=Nat.lt_of_lt_of_le hgq HT.out.bel.size
      go_wp2_with fail
      go_region_held3 (fun w'=>w'.cell? ⟨tb,0,none⟩=some (.pointer (some ⟨q,0,none⟩))∧w'.cell? ⟨q,4,none⟩=some (.slice (some ⟨gq,0,none⟩) (eqL L).length cq)∧w'.cell? ⟨gq,i * 6+5,none⟩=some (.int .i64 (bd:Int))∧w'.cell? ⟨tb,3,none⟩=some (.int .i64 (now:Int))) (go_keep)
       ((go_at_call 78;refine (HCALL.out _ (HT.out.below ((Below.refl _ _).drew))).mono ?_;rintro e w1 ⟨rfl,hb1⟩;have t1:=(hb1.cell (p:=⟨tb,0,none⟩) g1).trans b0;have t2:=(hb1.cell (p:=⟨q,4,none⟩) g2).trans p4;have t3:=(hb1.cell (p:=⟨gq,i * 6+5,none⟩) g3).trans y5;have t4:=(hb1.cell (p:=⟨tb,3,none⟩) g1).trans b3))
      rename_i hHeld
      clear hHeld t1 t2 t3 t4
      have hT1:RTab w0 w1 tb q g cap ts L vE vA vI (.slice (some ⟨gq,0,none⟩) (eqL L).length cq) vX ins (some ⟨gr,0,none⟩) gr rc N R F now gd D:=(HT.out.below ((Below.refl _ _).drew)).below hb1
      have u0:=hT1.c2
      have u3:=hT1.c3
      have u4:=hT1.c4
      have o1:=hT1.mat.outer i hil
      have o2:=hT1.mat.cell (i:=i) (j:=now) hil hN
      have o3:=hT1.mat.froz hil now
      have hT2:=hT1.put hil now v
      have HT3:=hide (hT2.mark i ok)
      have v4:=hT2.c4
      have v1:=hT2.done.cell hil
      have v2:=hT2.done.frozen i
      have j5:(0:Int)≤(now:Int):=by omega
      have j6:(now:Int)<(N:Int):=by omega
      clear hT1 hT2 hb1 HCALL HT HP b0 b3 b4 p4 y5 d1
      go_wp2_with fail
      go_big_region
      go_wp2
      go_roundw
      case rel=>exact ⟨i+1,_,gd,_,by omega,by go_num,by first | exact HT3.out | exact HT3.out.below (below_drewN (Below.refl _ _) _),HN.out⟩
      case measure=>simp [intOf];omega
    ·have ei:i=(eqL L).length:=by omega
     subst ei
     have z2:¬ ((eqL L).length:Int)<((eqL L).length:Int):=by omega
     clear hT hP
     go_wp2
     go_roundw
     case rel=>exact ⟨p+1,F,gd,D,by omega,by go_num,by first | exact HT.out | exact HT.out.below (below_drewN (Below.refl _ _) _),HP.out.over⟩
     case measure=>simp [intOf];omega
  ·have ep:p=(eqL L).length:=by omega
   subst ep
   have z2:¬ ((eqL L).length:Int)<((eqL L).length:Int):=by omega
   have HL:=hide (HP.out.last HH.out)
   have HK:=hide HT.out.toRTabB.tick
   clear HP
   go_wp2
   go_end0
   exact ⟨rfl,F,⟨_,HK.out⟩,HL.out⟩
theorem phase_col (M:Mx) (k i:Nat):phase M k i k=M i k:=by unfold phase;cases h:M i k <;> simp
theorem midM_col (M:Mx) (k f m:Nat):midM M k f m f k=M f k:=by
 unfold midM
 split
 ·exact phase_col M k f
 ·rfl
theorem midM_put (M:Mx) (k f m:Nat) (v:Bool) (hv:v=phase M k f m):upd (midM M k f m) f m v=midM M k f (m+1):=by
 funext i j
 unfold upd midM
 by_cases e:i=f∧j=m
 ·obtain ⟨rfl,rfl⟩:=e
  rw [if_pos ⟨rfl,rfl⟩,if_pos (.inr ⟨rfl,by omega⟩),hv]
 ·rw [if_neg e]
  by_cases h:i<f∨(i=f∧j<m)
  ·rw [if_pos h,if_pos (by omega)]
  ·rw [if_neg h,if_neg (by omega)]
set_option maxHeartbeats 2000000 in
set_option maxRecDepth 100000 in
theorem rcircles_any (w:World) (a:Option Addr) (g n cap B:Nat) (R:Nat→Nat) (M:Mx) (h:Mat w g n R M) (ha:0<n→a=some ⟨g,0,none⟩) (hn:n≤1501) (hB:B≤w.heap.size) (hR:∀ i,i<n→B≤R i) :
  Calls Tryz.prog 76 #[.slice a n cap] w fun e w'=>∃ G,e = .returned (.slice (some ⟨G,0,none⟩) n n)∧B≤G∧w'.rowIs G 4 n (fun i=>.bool (warsh M n i i))∧Below B w w':=by
 have hm2:=run_make_row' (P:=Tryz.prog) 97 4 (.bool false) 1 Tryz.underlying97 Tryz.infoBool rfl .i64 .i64 n (by omega) (by omega)
 have HM:=hide h
 have HA:=hide ha
 have HR:=hide hR
 clear h ha hR
 go_enter Tryz.func76,Tryz.ntmps76
 go_wp2
 go_loopw [4] (fun i wr=>∃ k:Nat,k≤n∧i = .int .i64 k∧Mat wr g n R (warsh M k)∧Below B w wr) (fun i _=>n - (intOf i).toNat)
 case atStart=>exact ⟨0,Nat.zero_le _,rfl,HM.out,Below.refl _ _⟩
 case round=>
  clear HM
  obtain ⟨k,hk,rfl,hmat,hro⟩:=hrel
  by_cases hlt:k<n
  ·have hag:=HA.out (by omega)
   subst hag
   have HW:Hid (warsh M (k+1)=phase (warsh M k) k):=hide rfl
   generalize warsh M k=Mk at *
   have HMAT:=hide hmat
   have HRO:=hide hro
   have j3:(0:Int)≤(k:Int):=by omega
   have j4:(k:Int)<(n:Int):=by omega
   clear hmat hro
   go_wp2
   go_loopw [5] (fun i wr=>∃ f:Nat,f≤n∧i = .int .i64 f∧Mat wr g n R (midM Mk k f 0)∧Below B w wr) (fun i _=>n - (intOf i).toNat)
   case atStart=>exact ⟨0,Nat.zero_le _,rfl,by rw [midM_zero];exact HMAT.out,HRO.out⟩
   case round=>
    clear HMAT HRO
    obtain ⟨f,hf,rfl,hmat,hro⟩:=hrel
    by_cases hfl:f<n
    ·have HMAT:=hide hmat
     have HRO:=hide hro
     have j1:(0:Int)≤(f:Int):=by omega
     have j2:(f:Int)<(n:Int):=by omega
     clear hmat hro
     go_wp2
     go_loopw [6] (fun i wr=>∃ m:Nat,m≤n∧i = .int .i64 m∧Mat wr g n R (midM Mk k f m)∧Below B w wr) (fun i _=>n - (intOf i).toNat)
     case atStart=>exact ⟨0,Nat.zero_le _,rfl,HMAT.out,HRO.out⟩
     case round=>
      clear HMAT HRO
      obtain ⟨m,hm,rfl,hmat,hro⟩:=hrel
      by_cases hml:m<n
      ·have o1:=hmat.outer f hfl
       have o2:=hmat.outer k hlt
       have x2:=hmat.cell (i:=k) (j:=m) hlt hml
       rw [midM_between Mk k f m m (by omega)] at x2
       have x3:=hmat.cell (i:=f) (j:=m) hfl hml
       rw [midM_here Mk k f m m (by omega)] at x3
       have x4:=hmat.cell (i:=f) (j:=k) hfl hlt
       rw [midM_col] at x4
       have f3:=hmat.froz hfl m
       have HMAT:=hide hmat
       have HRO:=hide hro
       have j5:(0:Int)≤(m:Int):=by omega
       have j6:(m:Int)<(n:Int):=by omega
       have HPH:Hid (phase Mk k f m=(Mk f m || (Mk f k && Mk k m))):=hide rfl
       have HBf:=hide (HR.out f hfl)
       have HX:Hid (∀ (W:World) (V:Bool),Mat W g n R (midM Mk k f m)→V=phase Mk k f m→Mat (W.setCell ⟨R f,m,none⟩ (.bool V)) g n R (midM Mk k f (m+1))):=hide (fun W V hW hV=>by
        rw [← midM_put Mk k f m V hV];exact hW.set hfl m V)
       clear hmat hro
       generalize hv1:Mk f m=v1 at x3 HPH
       generalize hv2:Mk f k=v2 at x4 HPH
       generalize hv3:Mk k m=v3 at x2 HPH
       clear hv1 hv2 hv3
       have hc:v1=true∨(v1=false∧v2=false)∨(v1=false∧v2=true):=by cases v1 <;> cases v2 <;> simp
       rcases hc with rfl | ⟨rfl,rfl⟩ | ⟨rfl,rfl⟩
       all_goals
        go_wp2_with fail
        go_big_region
        go_wp2
        go_roundw
        case rel=>
         exact ⟨m+1,by omega,by go_num,(HX.out _ _ HMAT.out (by rw [HPH.out];rfl)).drew,(HRO.out.setCell HBf.out _).drew⟩
        case measure=>simp [intOf];omega
      ·have HMAT:=hide hmat
       have HRO:=hide hro
       clear hmat hro
       go_wp2
       go_roundw
       case rel=>exact ⟨f+1,by omega,by go_num,HMAT.out.congr (midM_done Mk n k f m (by omega)),HRO.out⟩
       case measure=>simp [intOf];omega
    ·have HMAT:=hide hmat
     have HRO:=hide hro
     clear hmat hro
     go_wp2
     go_roundw
     case rel=>exact ⟨k+1,by omega,by go_num,by rw [HW.out];exact HMAT.out.congr (midM_all Mk n k f (by omega)),HRO.out⟩
     case measure=>simp [intOf];omega
  ·have ek:k=n:=by omega
   subst ek
   have HMAT:=hide hmat
   have HRO:=hide hro
   clear hmat hro
   go_wp2
   generalize hWM:warsh M k=WM at HMAT ⊢
   have hGB:B≤wr.heap.size:=Nat.le_trans hB HRO.out.size
   have HGM:Hid (∀ i,i<k→R i≠wr.heap.size∧g≠wr.heap.size):=hide (fun i hi=>⟨by have:=World.rowIs.lt (HMAT.out.rows i hi);omega,by have:=HMAT.out.lt (by omega);omega⟩)
   obtain ⟨G,hG⟩:∃ G,G=wr.heap.size:=⟨_,rfl⟩
   rw [← hG] at HGM hGB ⊢
   have HR0:Hid ((wr.alloc (.cells (madeCells #[.bool false] k) 4)).rowIs G 4 k (fun _=>.bool false)):=hide (by rw [hG];exact World.rowIs_made wr (.bool false) k 4)
   have HRW:Hid (Below B w (wr.alloc (.cells (madeCells #[.bool false] k) 4))):=hide (HRO.out.alloc (Nat.le_trans hB HRO.out.size) _)
   have HMW:=hide (HMAT.out.alloc (.cells (madeCells #[.bool false] k) 4))
   clear hG
   go_loopw [8] (fun i wx=>∃ m:Nat,m≤k∧i = .int .i64 m∧Mat wx g k R WM∧wx.rowIs G 4 k (fun i=>if i<m then .bool (WM i i) else .bool false)∧Below B w wx) (fun i _=>k - (intOf i).toNat)
   case atStart=>exact ⟨0,Nat.zero_le _,rfl,HMW.out,HR0.out.congr (fun i _=>by simp),HRW.out⟩
   case round=>
    clear HMAT HRO HRW HMW HR0
    obtain ⟨m,hm,rfl,hmat,hrow,hbel⟩:=hrel
    by_cases hml:m<k
    ·have hag:=HA.out (by omega)
     subst hag
     have o1:=hmat.outer m hml
     have x1:=hmat.cell hml hml
     have g1:=hrow.cell hml
     rw [if_neg (by omega)] at g1
     have g2:=hrow.frozen m
     have HMAT:=hide hmat
     have HROW:=hide hrow
     have j5:(0:Int)≤(m:Int):=by omega
     have j6:(m:Int)<(k:Int):=by omega
     clear hmat hrow
     go_wp2
     go_roundw
     case rel=>
      refine ⟨m+1,by omega,by go_num,HMAT.out.keep (heap_setCell_other wr ⟨G,m,none⟩ g _ (HGM.out m hml).2) (fun i hi=>heap_setCell_other wr ⟨G,m,none⟩ (R i) _ (HGM.out i hi).1),?_,hbel.setCell hGB _⟩
      refine (HROW.out.set m (.bool (WM m m))).congr (fun i hi=>?_)
      by_cases e:i=m
      ·subst e;rw [if_pos rfl,if_pos (by omega)]
      ·rw [if_neg e]
       by_cases h2:i<m
       ·rw [if_pos h2,if_pos (by omega)]
       ·rw [if_neg h2,if_neg (by omega)]
     case measure=>simp [intOf];omega
    ·have em:m=k:=by omega
     subst em
     have HROW:=hide hrow
     clear hmat hrow
     go_wp2
     go_ret
     subst hWM
     refine ⟨G,rfl,hGB,?_,hbel⟩
     exact HROW.out.congr (fun i hi=>by rw [if_pos hi])
def rowSl (n:Nat) (rs:List Nat):List Value:=rs.map fun r=>Value.slice (some ⟨r,0,none⟩) n n
theorem rowSl_snoc (n:Nat) (rs:List Nat) (r:Nat):rowSl n (rs ++ [r])=rowSl n rs ++ [.slice (some ⟨r,0,none⟩) n n]:=by simp [rowSl]
set_option maxHeartbeats 1000000 in
set_option maxRecDepth 100000 in
theorem rsquare_any (w:World) (n:Nat) (hn:n≤1501) :
  Calls Tryz.prog 74 #[.int .i64 (n:Int)] w fun e w'=>∃ (v:Value) (rs:List Nat),e = .returned v∧rs.length=n∧w'.ownsRow w.heap.size 97 1 v n (rowSl n rs)∧
   (∀ r∈rs,w.heap.size≤r∧v.ownBlock≠some r∧w'.rowIs r 4 n (fun _=>.bool false))∧rs.Nodup∧Below w.heap.size w w':=by
 obtain ⟨i0,hi0,hz0,hz1,hz2⟩:=info_parts Tryz.infoBools
 have hm2:=run_make_row' (P:=Tryz.prog) 97 4 (.bool false) 1 Tryz.underlying97 Tryz.infoBool rfl .i64 .i64 n (by omega) (by omega)
 go_enter Tryz.func74,Tryz.ntmps74
 go_wp2
 go_loopw [3,4] (fun v i wr=>∃ (k:Nat) (rs:List Nat),k≤n∧i = .int .i64 k∧rs.length=k∧wr.ownsRow w.heap.size 97 1 v k (rowSl n rs)∧
   (∀ r∈rs,w.heap.size≤r∧v.ownBlock≠some r∧wr.rowIs r 4 n (fun _=>.bool false))∧rs.Nodup∧Below w.heap.size w wr) (fun _ i _=>n - (intOf i).toNat)
 case atStart=>exact ⟨0,[],Nat.zero_le _,rfl,rfl,World.ownsRow_nil _ _ _ _,fun r hr=>by simp at hr,List.nodup_nil,Below.refl _ _⟩
 case round=>
  obtain ⟨k,rs,hk,rfl,hrl,hown,hrows,hnd,hbel⟩:=hrel
  have HRL:=hide hrl
  have HRW:=hide hrows
  have HND:=hide hnd
  have hbs:=hbel.size
  clear hrl hrows hnd
  by_cases hlt:k<n
  ·have HOV:=hide hown.lt
   go_wp2_with (at_builtin;refine wpList_append_lies _ rfl _ _ _ rfl w.heap.size 97 i0 _ 1 24 Tryz.underlying122 hi0 hz0 hz1 hz2 rfl (by omega) _ k (rowSl n rs) rfl ((hown.alloc _).alloc _) ⟨wr.heap.size+1,0,none⟩ 1 1 [.slice (some ⟨wr.heap.size,0,none⟩) n n] rfl rfl (World.news_of_block (cs:=#[.slice (some ⟨wr.heap.size,0,none⟩) n n]) (t:=97) (fr:=(0,0)) (by have:=heap_alloc_new (wr.alloc (.cells (madeCells #[.bool false] n) 4)) (.cells #[.slice (some ⟨wr.heap.size,0,none⟩) n n] 97);simpa using this)) (by simp [Value.oneCell']) (by omega) (by unfold maxLen;omega) (by omega) (by simp;omega) (wr.heap.size+2) (by simp) ?_;intro gg cap2 w3 hown3 hgrow hat hlt3)
   go_roundw
   case rel=>
    have hsz3:=hgrow.size
    simp at hsz3
    have hnr:∀ r∈rs,r<wr.heap.size:=fun r hr=>World.rowIs.lt (HRW.out r hr).2.2
    refine ⟨k+1,rs ++ [wr.heap.size],by omega,by go_num,by rw [List.length_append,HRL.out];rfl,?_,?_,?_,?_⟩
    ·rw [rowSl_snoc];exact hown3
    ·intro r hr
     rcases List.mem_append.1 hr with hr | hr
     ·obtain ⟨h1,h2,h3⟩:=HRW.out r hr
      have hrl:=hnr r hr
      refine ⟨h1,?_,?_⟩
      ·intro e
       have e':gg=r:=by simpa [Value.ownBlock] using e
       rcases hat with hat | hat
       ·rw [e'] at hat;exact h2 hat
       ·omega
      ·refine World.rowIs.of_block ((h3.alloc _).alloc _) (hgrow.block r (by simp;omega) (fun e=>h2 e.symm))
     ·rw [List.mem_singleton] at hr
      subst hr
      refine ⟨hbs,?_,?_⟩
      ·intro e
       have e':gg=wr.heap.size:=by simpa [Value.ownBlock] using e
       rcases hat with hat | hat
       ·rw [e'] at hat;have:=(HOV.out _ hat).2;omega
       ·omega
      ·refine World.rowIs.of_block ((World.rowIs_made wr (.bool false) n 4).alloc _) (hgrow.block wr.heap.size (by simp;omega) (fun e=>by have:=(HOV.out _ e.symm).2;omega))
    ·rw [List.nodup_append]
     refine ⟨HND.out,by simp,fun a ha b hb=>?_⟩
     rw [List.mem_singleton] at hb
     have:=hnr a ha
     omega
    ·exact ((hbel.alloc hbel.size _).alloc (by simp;omega) _).grown hgrow (by simp;omega) (fun j hj=>ownBlock_ge hown j hj)
   case measure=>simp [intOf];omega
  ·have ek:k=n:=by omega
   subst ek
   have HO:=hide hown
   clear hown
   go_wp2
   go_ret
   exact ⟨_,rs,rfl,HRL.out,HO.out,HRW.out,HND.out,hbel⟩
theorem square_mat {w':World}{B n:Nat}{v:Value}{rs:List Nat} (hl:rs.length=n) (hown:w'.ownsRow B 97 1 v n (rowSl n rs)) (hrows:∀ r∈rs,B≤r∧v.ownBlock≠some r∧w'.rowIs r 4 n (fun _=>.bool false)) (hnd:rs.Nodup) :
  ∃ (a:Option Addr) (g cap:Nat) (R:Nat→Nat),v = .slice a n cap∧(0<n→a=some ⟨g,0,none⟩)∧Mat w' g n R noM∧(∀ i,i<n→B≤R i)∧B≤g:=by
 rcases Nat.eq_zero_or_pos n with hz | hp
 ·obtain ⟨a,cap,hv,_⟩:=own_shape hown
  refine ⟨a,B,cap,fun _=>0,hv,fun h=>by omega,⟨fun i hi=>by omega,fun i hi=>by omega,fun i j hi=>by omega,fun i hi=>by omega⟩,fun i hi=>by omega,Nat.le_refl _⟩
 ·obtain ⟨g,cap,rfl,h1,h2⟩:=hown.form hp
  have hat:∀ i,(hi:i<n)→rs[i]'(by omega)∈rs:=fun i hi=>List.getElem_mem _
  refine ⟨some ⟨g,0,none⟩,g,cap,fun i=>rs.getD i 0,rfl,fun _=>rfl,⟨fun i hi=>?_,fun i hi=>?_,fun i j hi hj e=>?_,fun i hi e=>?_⟩,fun i hi=>?_,h1⟩
  ·rw [hown.cellAt i (by omega)]
   unfold rowSl
   rw [List.getElem?_map,List.getElem?_eq_getElem (by omega)]
   show some _=some (Value.slice (some ⟨rs.getD i 0,0,none⟩) n n)
   rw [List.getD_eq_getElem?_getD,List.getElem?_eq_getElem (by omega)]
   rfl
  ·show w'.rowIs (rs.getD i 0) _ _ _
   rw [List.getD_eq_getElem?_getD,List.getElem?_eq_getElem (by omega)]
   exact (hrows _ (hat i hi)).2.2
  ·have e':rs.getD i 0=rs.getD j 0:=e
   rw [List.getD_eq_getElem?_getD,List.getD_eq_getElem?_getD,List.getElem?_eq_getElem (show i<rs.length by omega),List.getElem?_eq_getElem (show j<rs.length by omega)] at e'
   have e2:rs[i]'(by omega)=rs[j]'(by omega):=e'
   rcases Nat.lt_trichotomy i j with hh | hh | hh
   ·exact absurd e2 ((List.pairwise_iff_getElem.1 hnd) i j (by omega) (by omega) hh)
   ·exact hh
   ·exact absurd e2.symm ((List.pairwise_iff_getElem.1 hnd) j i (by omega) (by omega) hh)
  ·have e':rs.getD i 0=g:=e
   rw [List.getD_eq_getElem?_getD,List.getElem?_eq_getElem (show i<rs.length by omega)] at e'
   have e2:rs[i]'(by omega)=g:=e'
   exact (hrows _ (hat i hi)).2.1 (by rw [e2];rfl)
  ·show B≤rs.getD i 0
   rw [List.getD_eq_getElem?_getD,List.getElem?_eq_getElem (by omega)]
   exact (hrows _ (hat i hi)).1
theorem any_range {p:Nat→Bool} (n k:Nat) (h:k<n):(List.range' k (n - k)).any p=(p k || (List.range' (k+1) (n - (k+1))).any p):=by
 rw [show n - k=(n - (k+1))+1 by omega,List.range'_succ,List.any_cons]
set_option maxHeartbeats 1000000 in
theorem rdelayed_any (w:World) (q g cap:Nat) (ts:List Tk) (L:List Dl) (vE vA vI vQ:Value) (h:RProg w q g cap ts L vE vA vI vQ) (ho:ROk ts L) (fr j:Nat) (hfj:fr≤j) (hj:j<ts.length) :
  Calls Tryz.prog 107 #[.pointer (some ⟨q,0,none⟩),.int .i64 (fr:Int),.int .i64 (j:Int)] w fun e w'=>e = .returned (.bool (delayedR ts fr j))∧Below w.heap.size w w':=by
 have hlen:=ho.len
 obtain ⟨gE,capE,rfl,_,hgE⟩:=h.ends.form (by omega)
 have HR:=hide h
 have HO:=hide ho
 clear h ho
 go_enter Tryz.func107,Tryz.ntmps107
 go_wp2
 go_loopw [7] (fun f wr=>∃ k:Nat,k≤j∧f = .int .i64 k∧Below w.heap.size w wr∧((List.range' k (j - k)).any fun f=>lAt ts f == kFby && decide (j<behindF ts (f+1)))=delayedR ts fr j) (fun f _=>j - (intOf f).toNat)
 case atStart=>exact ⟨fr,hfj,rfl,Below.refl _ _,rfl⟩
 case round=>
  obtain ⟨k,hk,rfl,hbel,hrec⟩:=hrel
  have c0:=(HR.out.below hbel).c0
  have c1:=(HR.out.below hbel).c1
  by_cases hlt:k<j
  ·obtain ⟨a,ha⟩:∃ a,a=rtok (tkAt ts k):=⟨_,rfl⟩
   obtain ⟨x0,x1,x2,x3⟩:=HR.out.toks.cells hbel (show k<ts.length by omega) a ha
   have hkw:=(HO.out.F k).kw kFby (by decide)
   rw [← ha] at hkw
   have r1:=end_later HR.out.ends hbel hgE (show k+1<ts.length by omega)
   have j1:(0:Int)≤(k:Int):=by omega
   have j2:(k:Int)<(ts.length:Int):=by omega
   have j3:(0:Int)≤(k:Int)+1:=by omega
   have j4:(k:Int)+1<(ts.length:Int):=by omega
   have j5:(k:Int)<(j:Int):=by omega
   have hbl:=behindF_le ts (k+1) (by omega)
   rw [any_range _ _ hlt] at hrec
   generalize behindF ts (k+1)=b at r1 hrec hbl
   by_cases hf:a.l=kFby
   ·have q1:=str_yes (t:=a.word) hf
    simp only [kFby] at q1
    have hl:(lAt ts k == kFby)=true:=by rw [beq_iff_eq];exact hkw.1 hf
    rw [hl,Bool.true_and] at hrec
    by_cases hb:j<b
    ·have q2:(j:Int)<(b:Int):=by omega
     rw [decide_eq_true hb,Bool.true_or] at hrec
     have HRC:=hide hrec
     clear hrec hl hf hb hkw ha
     go_wp2
     go_ret
     exact ⟨by rw [← HRC.out];rfl,by first | exact hbel | exact below_drewN hbel _⟩
    ·have q2:¬ (j:Int)<(b:Int):=by omega
     rw [decide_eq_false hb,Bool.false_or] at hrec
     have HRC:=hide hrec
     clear hrec hl hf hb hkw ha
     go_wp2
     go_roundw
     case rel=>exact ⟨k+1,by omega,by go_num,by first | exact hbel | exact below_drewN hbel _,HRC.out⟩
     case measure=>simp [intOf];omega
   ·have q1:=str_no (t:=a.word) hf
    simp only [kFby] at q1
    have hl:(lAt ts k == kFby)=false:=by rw [beq_eq_false_iff_ne];exact fun e=>hf (hkw.2 e)
    rw [hl,Bool.false_and,Bool.false_or] at hrec
    have HRC:=hide hrec
    clear hrec hl hf hkw ha
    go_wp2
    go_roundw
    case rel=>exact ⟨k+1,by omega,by go_num,by first | exact hbel | exact below_drewN hbel _,HRC.out⟩
    case measure=>simp [intOf];omega
  ·have e0:j - k=0:=by omega
   rw [e0] at hrec
   have HRC:=hide hrec
   have z1:¬ (k:Int)<(j:Int):=by omega
   clear hrec e0
   go_wp2
   go_ret
   exact ⟨by rw [← HRC.out];rfl,hbel⟩
end Go.Proofs.YtecegaflhdgfaaaGreat
