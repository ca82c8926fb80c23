import Derived.Test.YtmndgoapkmhglabGreatM13OrdB
import Derived.Test.YtmndgoapkmhglabGreatM23RefK
import Derived.Test.YtmndgoapkmhglabGreatM27RefV
namespace Go.Proofs.YtmndgoapkmhglabGreat
open Go.RowKit
attribute [local go_sem ↓] Go.wp_at_zero Go.wp_at_succ
theorem phase_col (M:Mx) (k i:Nat):phase M k i k=M i k:=by unfold phase;cases h:M i k <;> simp
theorem midM_col (M:Mx) (k f m:Nat):midM M k f m f k=M f k:=by
 unfold midM
 split
 ·exact phase_col M k f
 ·rfl
theorem midM_put (M:Mx) (k f m:Nat) (v:Bool) (hv:v=phase M k f m):upd (midM M k f m) f m v=midM M k f (m+1):=by
 funext i j
 unfold upd midM
 by_cases e:i=f∧j=m
 ·obtain ⟨rfl,rfl⟩:=e
  rw [if_pos ⟨rfl,rfl⟩,if_pos (.inr ⟨rfl,by omega⟩),hv]
 ·rw [if_neg e]
  by_cases h:i<f∨(i=f∧j<m)
  ·rw [if_pos h,if_pos (by omega)]
  ·rw [if_neg h,if_neg (by omega)]
set_option maxHeartbeats 2000000 in
set_option maxRecDepth 100000 in
theorem rcircles_any (w:World) (a:Option Addr) (g n cap B:Nat) (R:Nat→Nat) (M:Mx) (h:Mat w g n R M) (ha:0<n→a=some ⟨g,0,none⟩) (hn:n≤1501) (hB:B≤w.heap.size) (hR:∀ i,i<n→B≤R i) :
  Calls Tryz.prog 77 #[.slice a n cap] w fun e w'=>∃ G,e = .returned (.slice (some ⟨G,0,none⟩) n n)∧B≤G∧w'.rowIs G 4 n (fun i=>.bool (warsh M n i i))∧Below B w w':=by
 have hm2:=run_make_row' (P:=Tryz.prog) 110 4 (.bool false) 1 Tryz.underlying110 Tryz.infoBool rfl .i64 .i64 n (by omega) (by omega)
 have HM:=hide h
 have HA:=hide ha
 have HR:=hide hR
 clear h ha hR
 go_enter Tryz.func77,Tryz.ntmps77
 go_wp2
 go_loopw [4] (fun i wr=>∃ k:Nat,k≤n∧i = .int .i64 k∧Mat wr g n R (warsh M k)∧Below B w wr) (fun i _=>n - (intOf i).toNat)
 case atStart=>exact ⟨0,Nat.zero_le _,rfl,HM.out,Below.refl _ _⟩
 case round=>
  clear HM
  obtain ⟨k,hk,rfl,hmat,hro⟩:=hrel
  by_cases hlt:k<n
  ·have hag:=HA.out (by omega)
   subst hag
   have HW:Hid (warsh M (k+1)=phase (warsh M k) k):=hide rfl
   generalize warsh M k=Mk at *
   have HMAT:=hide hmat
   have HRO:=hide hro
   have j3:(0:Int)≤(k:Int):=by omega
   have j4:(k:Int)<(n:Int):=by omega
   clear hmat hro
   go_wp2
   go_loopw [5] (fun i wr=>∃ f:Nat,f≤n∧i = .int .i64 f∧Mat wr g n R (midM Mk k f 0)∧Below B w wr) (fun i _=>n - (intOf i).toNat)
   case atStart=>exact ⟨0,Nat.zero_le _,rfl,by rw [midM_zero];exact HMAT.out,HRO.out⟩
   case round=>
    clear HMAT HRO
    obtain ⟨f,hf,rfl,hmat,hro⟩:=hrel
    by_cases hfl:f<n
    ·have HMAT:=hide hmat
     have HRO:=hide hro
     have j1:(0:Int)≤(f:Int):=by omega
     have j2:(f:Int)<(n:Int):=by omega
     clear hmat hro
     go_wp2
     go_loopw [6] (fun i wr=>∃ m:Nat,m≤n∧i = .int .i64 m∧Mat wr g n R (midM Mk k f m)∧Below B w wr) (fun i _=>n - (intOf i).toNat)
     case atStart=>exact ⟨0,Nat.zero_le _,rfl,HMAT.out,HRO.out⟩
     case round=>
      clear HMAT HRO
      obtain ⟨m,hm,rfl,hmat,hro⟩:=hrel
      by_cases hml:m<n
      ·have o1:=hmat.outer f hfl
       have o2:=hmat.outer k hlt
       have x2:=hmat.cell (i:=k) (j:=m) hlt hml
       rw [midM_between Mk k f m m (by omega)] at x2
       have x3:=hmat.cell (i:=f) (j:=m) hfl hml
       rw [midM_here Mk k f m m (by omega)] at x3
       have x4:=hmat.cell (i:=f) (j:=k) hfl hlt
       rw [midM_col] at x4
       have f3:=hmat.froz hfl m
       have HMAT:=hide hmat
       have HRO:=hide hro
       have j5:(0:Int)≤(m:Int):=by omega
       have j6:(m:Int)<(n:Int):=by omega
       have HPH:Hid (phase Mk k f m=(Mk f m || (Mk f k && Mk k m))):=hide rfl
       have HBf:=hide (HR.out f hfl)
       have HX:Hid (∀ (W:World) (V:Bool),Mat W g n R (midM Mk k f m)→V=phase Mk k f m→Mat (W.setCell ⟨R f,m,none⟩ (.bool V)) g n R (midM Mk k f (m+1))):=hide (fun W V hW hV=>by
        rw [← midM_put Mk k f m V hV];exact hW.set hfl m V)
       clear hmat hro
       generalize hv1:Mk f m=v1 at x3 HPH
       generalize hv2:Mk f k=v2 at x4 HPH
       generalize hv3:Mk k m=v3 at x2 HPH
       clear hv1 hv2 hv3
       have hc:v1=true∨(v1=false∧v2=false)∨(v1=false∧v2=true):=by cases v1 <;> cases v2 <;> simp
       rcases hc with rfl | ⟨rfl,rfl⟩ | ⟨rfl,rfl⟩
       all_goals
        go_wp2_with fail
        go_big_region
        go_wp2
        go_roundw
        case rel=>
         exact ⟨m+1,by omega,by go_num,(HX.out _ _ HMAT.out (by rw [HPH.out];rfl)).drew,(HRO.out.setCell HBf.out _).drew⟩
        case measure=>simp [intOf];omega
      ·have HMAT:=hide hmat
       have HRO:=hide hro
       clear hmat hro
       go_wp2
       go_roundw
       case rel=>exact ⟨f+1,by omega,by go_num,HMAT.out.congr (midM_done Mk n k f m (by omega)),HRO.out⟩
       case measure=>simp [intOf];omega
    ·have HMAT:=hide hmat
     have HRO:=hide hro
     clear hmat hro
     go_wp2
     go_roundw
     case rel=>exact ⟨k+1,by omega,by go_num,by rw [HW.out];exact HMAT.out.congr (midM_all Mk n k f (by omega)),HRO.out⟩
     case measure=>simp [intOf];omega
  ·have ek:k=n:=by omega
   subst ek
   have HMAT:=hide hmat
   have HRO:=hide hro
   clear hmat hro
   go_wp2
   generalize hWM:warsh M k=WM at HMAT ⊢
   have hGB:B≤wr.heap.size:=Nat.le_trans hB HRO.out.size
   have HGM:Hid (∀ i,i<k→R i≠wr.heap.size∧g≠wr.heap.size):=hide (fun i hi=>⟨by have:=World.rowIs.lt (HMAT.out.rows i hi);omega,by have:=HMAT.out.lt (by omega);omega⟩)
   obtain ⟨G,hG⟩:∃ G,G=wr.heap.size:=⟨_,rfl⟩
   rw [← hG] at HGM hGB ⊢
   have HR0:Hid ((wr.alloc (.cells (madeCells #[.bool false] k) 4)).rowIs G 4 k (fun _=>.bool false)):=hide (by rw [hG];exact World.rowIs_made wr (.bool false) k 4)
   have HRW:Hid (Below B w (wr.alloc (.cells (madeCells #[.bool false] k) 4))):=hide (HRO.out.alloc (Nat.le_trans hB HRO.out.size) _)
   have HMW:=hide (HMAT.out.alloc (.cells (madeCells #[.bool false] k) 4))
   clear hG
   go_loopw [8] (fun i wx=>∃ m:Nat,m≤k∧i = .int .i64 m∧Mat wx g k R WM∧wx.rowIs G 4 k (fun i=>if i<m then .bool (WM i i) else .bool false)∧Below B w wx) (fun i _=>k - (intOf i).toNat)
   case atStart=>exact ⟨0,Nat.zero_le _,rfl,HMW.out,HR0.out.congr (fun i _=>by simp),HRW.out⟩
   case round=>
    clear HMAT HRO HRW HMW HR0
    obtain ⟨m,hm,rfl,hmat,hrow,hbel⟩:=hrel
    by_cases hml:m<k
    ·have hag:=HA.out (by omega)
     subst hag
     have o1:=hmat.outer m hml
     have x1:=hmat.cell hml hml
     have g1:=hrow.cell hml
     rw [if_neg (by omega)] at g1
     have g2:=hrow.frozen m
     have HMAT:=hide hmat
     have HROW:=hide hrow
     have j5:(0:Int)≤(m:Int):=by omega
     have j6:(m:Int)<(k:Int):=by omega
     clear hmat hrow
     go_wp2
     go_roundw
     case rel=>
      refine ⟨m+1,by omega,by go_num,HMAT.out.keep (heap_setCell_other wr ⟨G,m,none⟩ g _ (HGM.out m hml).2) (fun i hi=>heap_setCell_other wr ⟨G,m,none⟩ (R i) _ (HGM.out i hi).1),?_,hbel.setCell hGB _⟩
      refine (HROW.out.set m (.bool (WM m m))).congr (fun i hi=>?_)
      by_cases e:i=m
      ·subst e;rw [if_pos rfl,if_pos (by omega)]
      ·rw [if_neg e]
       by_cases h2:i<m
       ·rw [if_pos h2,if_pos (by omega)]
       ·rw [if_neg h2,if_neg (by omega)]
     case measure=>simp [intOf];omega
    ·have em:m=k:=by omega
     subst em
     have HROW:=hide hrow
     clear hmat hrow
     go_wp2
     go_ret
     subst hWM
     refine ⟨G,rfl,hGB,?_,hbel⟩
     exact HROW.out.congr (fun i hi=>by rw [if_pos hi])
def rowSl (n:Nat) (rs:List Nat):List Value:=rs.map fun r=>Value.slice (some ⟨r,0,none⟩) n n
theorem rowSl_snoc (n:Nat) (rs:List Nat) (r:Nat):rowSl n (rs ++ [r])=rowSl n rs ++ [.slice (some ⟨r,0,none⟩) n n]:=by simp [rowSl]
set_option maxHeartbeats 1000000 in
set_option maxRecDepth 100000 in
theorem rsquare_any (w:World) (n:Nat) (hn:n≤1501) :
  Calls Tryz.prog 75 #[.int .i64 (n:Int)] w fun e w'=>∃ (v:Value) (rs:List Nat),e = .returned v∧rs.length=n∧w'.ownsRow w.heap.size 110 1 v n (rowSl n rs)∧
   (∀ r∈rs,w.heap.size≤r∧v.ownBlock≠some r∧w'.rowIs r 4 n (fun _=>.bool false))∧rs.Nodup∧Below w.heap.size w w':=by
 obtain ⟨i0,hi0,hz0,hz1,hz2⟩:=info_parts Tryz.infoBools
 have hm2:=run_make_row' (P:=Tryz.prog) 110 4 (.bool false) 1 Tryz.underlying110 Tryz.infoBool rfl .i64 .i64 n (by omega) (by omega)
 go_enter Tryz.func75,Tryz.ntmps75
 go_wp2
 go_loopw [3,4] (fun v i wr=>∃ (k:Nat) (rs:List Nat),k≤n∧i = .int .i64 k∧rs.length=k∧wr.ownsRow w.heap.size 110 1 v k (rowSl n rs)∧
   (∀ r∈rs,w.heap.size≤r∧v.ownBlock≠some r∧wr.rowIs r 4 n (fun _=>.bool false))∧rs.Nodup∧Below w.heap.size w wr) (fun _ i _=>n - (intOf i).toNat)
 case atStart=>exact ⟨0,[],Nat.zero_le _,rfl,rfl,World.ownsRow_nil _ _ _ _,fun r hr=>by simp at hr,List.nodup_nil,Below.refl _ _⟩
 case round=>
  obtain ⟨k,rs,hk,rfl,hrl,hown,hrows,hnd,hbel⟩:=hrel
  have HRL:=hide hrl
  have HRW:=hide hrows
  have HND:=hide hnd
  have hbs:=hbel.size
  clear hrl hrows hnd
  by_cases hlt:k<n
  ·have HOV:=hide hown.lt
   go_wp2_with (at_builtin;refine wpList_append_lies _ rfl _ _ _ rfl w.heap.size 110 i0 _ 1 24 Tryz.underlying148 hi0 hz0 hz1 hz2 rfl (by omega) _ k (rowSl n rs) rfl ((hown.alloc _).alloc _) ⟨wr.heap.size+1,0,none⟩ 1 1 [.slice (some ⟨wr.heap.size,0,none⟩) n n] rfl rfl (World.news_of_block (cs:=#[.slice (some ⟨wr.heap.size,0,none⟩) n n]) (t:=110) (fr:=(0,0)) (by have:=heap_alloc_new (wr.alloc (.cells (madeCells #[.bool false] n) 4)) (.cells #[.slice (some ⟨wr.heap.size,0,none⟩) n n] 110);simpa using this)) (by simp [Value.oneCell']) (by omega) (by unfold maxLen;omega) (by omega) (by simp;omega) (wr.heap.size+2) (by simp) ?_;intro gg cap2 w3 hown3 hgrow hat hlt3)
   go_roundw
   case rel=>
    have hsz3:=hgrow.size
    simp at hsz3
    have hnr:∀ r∈rs,r<wr.heap.size:=fun r hr=>World.rowIs.lt (HRW.out r hr).2.2
    refine ⟨k+1,rs ++ [wr.heap.size],by omega,by go_num,by rw [List.length_append,HRL.out];rfl,?_,?_,?_,?_⟩
    ·rw [rowSl_snoc];exact hown3
    ·intro r hr
     rcases List.mem_append.1 hr with hr | hr
     ·obtain ⟨h1,h2,h3⟩:=HRW.out r hr
      have hrl:=hnr r hr
      refine ⟨h1,?_,?_⟩
      ·intro e
       have e':gg=r:=by simpa [Value.ownBlock] using e
       rcases hat with hat | hat
       ·rw [e'] at hat;exact h2 hat
       ·omega
      ·refine World.rowIs.of_block ((h3.alloc _).alloc _) (hgrow.block r (by simp;omega) (fun e=>h2 e.symm))
     ·rw [List.mem_singleton] at hr
      subst hr
      refine ⟨hbs,?_,?_⟩
      ·intro e
       have e':gg=wr.heap.size:=by simpa [Value.ownBlock] using e
       rcases hat with hat | hat
       ·rw [e'] at hat;have:=(HOV.out _ hat).2;omega
       ·omega
      ·refine World.rowIs.of_block ((World.rowIs_made wr (.bool false) n 4).alloc _) (hgrow.block wr.heap.size (by simp;omega) (fun e=>by have:=(HOV.out _ e.symm).2;omega))
    ·rw [List.nodup_append]
     refine ⟨HND.out,by simp,fun a ha b hb=>?_⟩
     rw [List.mem_singleton] at hb
     have:=hnr a ha
     omega
    ·exact ((hbel.alloc hbel.size _).alloc (by simp;omega) _).grown hgrow (by simp;omega) (fun j hj=>ownBlock_ge hown j hj)
   case measure=>simp [intOf];omega
  ·have ek:k=n:=by omega
   subst ek
   have HO:=hide hown
   clear hown
   go_wp2
   go_ret
   exact ⟨_,rs,rfl,HRL.out,HO.out,HRW.out,HND.out,hbel⟩
theorem square_mat {w':World}{B n:Nat}{v:Value}{rs:List Nat} (hl:rs.length=n) (hown:w'.ownsRow B 110 1 v n (rowSl n rs)) (hrows:∀ r∈rs,B≤r∧v.ownBlock≠some r∧w'.rowIs r 4 n (fun _=>.bool false)) (hnd:rs.Nodup) :
  ∃ (a:Option Addr) (g cap:Nat) (R:Nat→Nat),v = .slice a n cap∧(0<n→a=some ⟨g,0,none⟩)∧Mat w' g n R noM∧(∀ i,i<n→B≤R i)∧B≤g:=by
 rcases Nat.eq_zero_or_pos n with hz | hp
 ·obtain ⟨a,cap,hv,_⟩:=own_shape hown
  refine ⟨a,B,cap,fun _=>0,hv,fun h=>by omega,⟨fun i hi=>by omega,fun i hi=>by omega,fun i j hi=>by omega,fun i hi=>by omega⟩,fun i hi=>by omega,Nat.le_refl _⟩
 ·obtain ⟨g,cap,rfl,h1,h2⟩:=hown.form hp
  have hat:∀ i,(hi:i<n)→rs[i]'(by omega)∈rs:=fun i hi=>List.getElem_mem _
  refine ⟨some ⟨g,0,none⟩,g,cap,fun i=>rs.getD i 0,rfl,fun _=>rfl,⟨fun i hi=>?_,fun i hi=>?_,fun i j hi hj e=>?_,fun i hi e=>?_⟩,fun i hi=>?_,h1⟩
  ·rw [hown.cellAt i (by omega)]
   unfold rowSl
   rw [List.getElem?_map,List.getElem?_eq_getElem (by omega)]
   show some _=some (Value.slice (some ⟨rs.getD i 0,0,none⟩) n n)
   rw [List.getD_eq_getElem?_getD,List.getElem?_eq_getElem (by omega)]
   rfl
  ·show w'.rowIs (rs.getD i 0) _ _ _
   rw [List.getD_eq_getElem?_getD,List.getElem?_eq_getElem (by omega)]
   exact (hrows _ (hat i hi)).2.2
  ·have e':rs.getD i 0=rs.getD j 0:=e
   rw [List.getD_eq_getElem?_getD,List.getD_eq_getElem?_getD,List.getElem?_eq_getElem (show i<rs.length by omega),List.getElem?_eq_getElem (show j<rs.length by omega)] at e'
   have e2:rs[i]'(by omega)=rs[j]'(by omega):=e'
   rcases Nat.lt_trichotomy i j with hh | hh | hh
   ·exact absurd e2 ((List.pairwise_iff_getElem.1 hnd) i j (by omega) (by omega) hh)
   ·exact hh
   ·exact absurd e2.symm ((List.pairwise_iff_getElem.1 hnd) j i (by omega) (by omega) hh)
  ·have e':rs.getD i 0=g:=e
   rw [List.getD_eq_getElem?_getD,List.getElem?_eq_getElem (show i<rs.length by omega)] at e'
   have e2:rs[i]'(by omega)=g:=e'
   exact (hrows _ (hat i hi)).2.1 (by rw [e2];rfl)
  ·show B≤rs.getD i 0
   rw [List.getD_eq_getElem?_getD,List.getElem?_eq_getElem (by omega)]
   exact (hrows _ (hat i hi)).1
theorem routes_in {ts:List Tk}{L:List Dl}:∀ (l:List Dl) (b:Nat),∀ r∈routesFrom ts L b l,r.src<b+l.length∧r.dst<4:=by
 have hto:∀ b x k,∀ r∈routeTo ts L b x k,r.src=b∧r.dst<k:=by
  intro b x k
  induction k with
  | zero=>intro r hr;simp [routeTo] at hr
  | succ k ih=>
   intro r hr
   simp only [routeTo,List.mem_append] at hr
   rcases hr with hr | hr
   ·have:=ih r hr;exact ⟨this.1,by omega⟩
   ·unfold routeAt at hr
    split at hr
    ·simp at hr;subst hr;exact ⟨rfl,Nat.lt_succ_self _⟩
    ·simp at hr
 intro l
 induction l with
 | nil=>intro b r hr;simp [routesFrom] at hr
 | cons x l ih=>
  intro b r hr
  simp only [routesFrom,List.mem_append] at hr
  rw [List.length_cons]
  rcases hr with hr | hr
  ·have:=hto b x 4 r hr;exact ⟨by omega,this.2⟩
  ·have:=ih (b+1) r hr;exact ⟨by omega,this.2⟩
theorem rt_later {w wr:World}{B g cap:Nat}{l:List Rt} (h:w.ownsRow B 88 3 (.slice (some ⟨g,0,none⟩) l.length cap) l.length (rtCells l)) (hb:wr.heap[g]? = w.heap[g]?) {k:Nat} (hk:k<l.length) (r:Rt) (hr:r=l[k]'hk) :
  wr.cell? ⟨g,k * 3,none⟩=some (.int .i64 (r.src:Int))∧wr.cell? ⟨g,k * 3+1,none⟩=some (.int .i64 (r.dst:Int))∧wr.cell? ⟨g,k * 3+2,none⟩=some (.bool r.late):=by
 have hcr:∀ j,j<3→wr.cell? ⟨g,k * 3+j,none⟩=r.cells[j]?:=fun j hj=>by
  rw [World.cell?_of_block (w:=w) (a:=⟨g,k * 3+j,none⟩) hb,h.cellAt (k * 3+j) (by omega)]
  have e:=flat_get Rt.cells 3 rt_len l k j hk hj
  rw [← hr] at e
  exact e
 exact ⟨hcr 0 (by omega),hcr 1 (by omega),hcr 2 (by omega)⟩
set_option maxHeartbeats 2000000 in
set_option maxRecDepth 100000 in
theorem rwaits_any (w:World) (q g cap:Nat) (ts:List Tk) (L:List Dl) (vE vA vI vQ:Value) (h:RProg w q g cap ts L vE vA vI vQ) (ho:ROk ts L) :
  Calls Tryz.prog 78 #[.pointer (some ⟨q,0,none⟩)] w fun e w'=>∃ (g2 cap2:Nat) (R:Nat→Nat),e = .returned (.slice (some ⟨g2,0,none⟩) 4 cap2)∧Mat w' g2 4 R (waitsP ((eqL L).map (placeD ts)) (routesR ts L) noM)∧(∀ i,i<4→w.heap.size≤R i)∧w.heap.size≤g2∧Below w.heap.size w w':=by
 obtain ⟨hm1,hm2,hm3⟩:=ho.many
 obtain ⟨av,cv,rfl,hsh⟩:=own_shape h.eqs
 have HR:=hide h
 have HO:=hide ho
 have HSH:=hide hsh
 clear h ho hsh
 go_enter Tryz.func78,Tryz.ntmps78
 go_wp2_with fail
 refine (rsquare_any w 4 (by omega)).mono ?_
 rintro e w1 ⟨v,rs,rfl,hrl,hown,hrows,hnd,hb1⟩
 obtain ⟨a,g2,cap2,R,rfl,hag,hmat,hRB,hg2⟩:=square_mat hrl hown hrows hnd
 have hag':=hag (by omega)
 subst hag'
 have HRB:=hide hRB
 have HM1:=hide hmat
 have HRP1:=hide (HR.out.below hb1)
 clear hrl hown hrows hnd hag hmat hRB
 go_wp2_with fail
 refine (rroutes_any w1 q g cap ts L _ _ _ _ HRP1.out HO.out).mono ?_
 rintro e2 w2 ⟨vl,rfl,hol,hll,hb2⟩
 obtain ⟨al,cl,rfl,hshl⟩:=own_shape hol
 have hin:=routes_in (ts:=ts) (L:=L) (eqL L) 0
 have hbw2:Below w.heap.size w w2:=hb1.trans (hb2.mono hb1.size)
 have HM2:Hid (Mat w2 g2 4 R noM):=hide (HM1.out.keep (hb2.block g2 (HM1.out.lt (by omega))) (fun i hi=>hb2.block (R i) (World.rowIs.lt (HM1.out.rows i hi))))
 have HNE:Hid (∀ gl,al=some ⟨gl,0,none⟩→0<(routesR ts L).length→gl<w2.heap.size∧∀ i,i<4→R i≠gl):=hide (fun gl hgl hp=>by
  obtain ⟨gg,e1,h1,h2⟩:=hshl hp
  rw [e1] at hgl
  cases hgl
  exact ⟨h2,fun i hi=>by have:=World.rowIs.lt (HM1.out.rows i hi);omega⟩)
 have HIN:Hid (∀ r∈routesR ts L,r.src<(eqL L).length∧r.dst<4):=hide (fun r hr=>by have:=hin r hr;exact ⟨by omega,this.2⟩)
 have HOL:=hide (And.intro hol hshl)
 generalize hRS:routesR ts L=rsl at HNE HIN HOL hll
 have HRS:=hide hRS
 clear hin hol hshl hb1 hb2 HM1 HRP1 hRS
 go_wp2
 go_loopw [5] (fun vi wx=>∃ (m:Nat) (M:Mx),m≤rsl.length∧vi = .int .i64 m∧Mat wx g2 4 R M∧Below w.heap.size w wx∧(∀ gl,al=some ⟨gl,0,none⟩→0<rsl.length→wx.heap[gl]? = w2.heap[gl]?)∧waitsP ((eqL L).map (placeD ts)) (rsl.drop m) M=waitsP ((eqL L).map (placeD ts)) rsl noM) (fun vi _=>rsl.length - (intOf vi).toNat)
 case atStart=>exact ⟨0,noM,Nat.zero_le _,rfl,HM2.out,hbw2,fun _ _ _=>rfl,rfl⟩
 case round=>
  clear HM2 hbw2
  obtain ⟨m,M,hm,rfl,hmat,hbel,hkeep,hrec⟩:=hrel
  by_cases hml:m<rsl.length
  ·obtain ⟨gl,rfl,_,hgl⟩:=HOL.out.2 (by omega)
   obtain ⟨r,hr⟩:∃ r,r=rsl[m]'hml:=⟨_,rfl⟩
   obtain ⟨hs1,hd1⟩:=HIN.out r (by rw [hr];exact List.getElem_mem hml)
   obtain ⟨x0,x1,x2⟩:=rt_later HOL.out.1 (hkeep gl rfl (by omega)) hml r hr
   obtain ⟨gq,rfl,_,hgq2⟩:=HSH.out (by omega)
   obtain ⟨x,hx⟩:∃ x,x=(eqL L)[r.src]'hs1:=⟨_,rfl⟩
   obtain ⟨_,hxk,_,_,hxp⟩:=HO.out.eq (x:=x) (by rw [hx];exact List.getElem_mem hs1)
   have c4:=(HR.out.below hbel).c4
   have y4:=(rd_later HR.out.eqs hbel hgq2 hs1 (rdc ts x) (by rw [hx])).2.2.2.2.1
   rw [(rdc_truth ts hxk).2.2] at y4
   have hpl:((eqL L).map (placeD ts)).getD r.src 0=placeD ts x:=by
    rw [List.getD_eq_getElem?_getD,List.getElem?_map,List.getElem?_eq_getElem hs1,← hx];rfl
   rw [List.drop_eq_getElem_cons hml,← hr] at hrec
   simp only [waitsP] at hrec
   rw [hpl] at hrec
   have o1:=hmat.outer r.dst hd1
   have o2:=hmat.cell hd1 hxp
   have o3:=hmat.froz hd1 (placeD ts x)
   have HMAT:=hide hmat
   have HRC:=hide hrec
   have HKP:=hide hkeep
   have HBF:=hide (HRB.out r.dst hd1)
   have HNG:=hide ((HNE.out gl rfl (by omega)).2 r.dst hd1)
   obtain ⟨src,dst,late⟩:=r
   simp only at hs1 hd1 x0 x1 x2 o1 o2 o3 y4 hxp HRC HBF HNG
   generalize placeD ts x=pl at y4 o2 o3 HRC hxp
   have d1:(0:Int)≤(m:Int):=by omega
   have d2:(m:Int)<(rsl.length:Int):=by omega
   have d3:(0:Int)≤(src:Int):=by omega
   have d4:(src:Int)<((eqL L).length:Int):=by omega
   have d5:(0:Int)≤(dst:Int):=by omega
   have d6:(dst:Int)<4:=by omega
   have d7:(0:Int)≤(pl:Int):=by omega
   have d8:(pl:Int)<4:=by omega
   clear hr hx hxk hpl hrec hmat hkeep
   cases late
   ·have HN2:Hid (waitsP ((eqL L).map (placeD ts)) (rsl.drop (m+1)) (upd M dst pl true)=waitsP ((eqL L).map (placeD ts)) rsl noM):=hide (by rw [← HRC.out];simp)
    clear HRC
    go_wp2_with fail
    go_big_region
    go_wp2
    go_roundw
    case rel=>
     refine ⟨m+1,upd M dst pl true,by omega,by go_num,(HMAT.out.set hd1 pl true).drew,(hbel.setCell HBF.out _).drew,fun gl' hg' hp'=>?_,HN2.out⟩
     cases hg'
     exact (heap_setCell_other wr ⟨R dst,pl,none⟩ gl _ (Ne.symm HNG.out)).trans (HKP.out gl rfl hp')
    case measure=>simp [intOf];omega
   ·have HN2:Hid (waitsP ((eqL L).map (placeD ts)) (rsl.drop (m+1)) M=waitsP ((eqL L).map (placeD ts)) rsl noM):=hide (by rw [← HRC.out];simp)
    clear HRC
    go_wp2
    go_roundw
    case rel=>exact ⟨m+1,M,by omega,by go_num,HMAT.out,hbel,HKP.out,HN2.out⟩
    case measure=>simp [intOf];omega
  ·have em:m=rsl.length:=by omega
   subst em
   rw [List.drop_length] at hrec
   have HMM:Hid (Mat wr g2 4 R (waitsP ((eqL L).map (placeD ts)) rsl noM)):=hide (by rw [← hrec];exact hmat)
   have z1:¬ (rsl.length:Int)<(rsl.length:Int):=by omega
   clear hrec hmat hkeep
   go_wp2
   go_ret
   exact ⟨g2,⟨cap2,rfl⟩,R,by rw [HRS.out];exact HMM.out,HRB.out,hg2,hbel⟩
end Go.Proofs.YtmndgoapkmhglabGreat
