import Derived.Test.YtmndgoapkmhglaaGreatM14OrdB
import Derived.Test.YtmndgoapkmhglaaGreatM31RefK
namespace Go.Proofs.YtmndgoapkmhglaaGreat
open Go.RowKit
attribute [local go_sem ↓] Go.wp_at_zero Go.wp_at_succ
theorem any_range {p:Nat→Bool} (n k:Nat) (h:k<n):(List.range' k (n - k)).any p=(p k || (List.range' (k+1) (n - (k+1))).any p):=by
 rw [show n - k=(n - (k+1))+1 by omega,List.range'_succ,List.any_cons]
set_option maxHeartbeats 1000000 in
theorem rdelayed_any (w:World) (q g cap:Nat) (ts:List Tk) (L:List Dl) (vE vA vI vQ:Value) (h:RProg w q g cap ts L vE vA vI vQ) (ho:ROk ts L) (fr j:Nat) (hfj:fr≤j) (hj:j<ts.length) :
  Calls Tryz.prog 107 #[.pointer (some ⟨q,0,none⟩),.int .i64 (fr:Int),.int .i64 (j:Int)] w fun e w'=>e = .returned (.bool (delayedR ts fr j))∧Below w.heap.size w w':=by
 have hlen:=ho.len
 obtain ⟨gE,capE,rfl,_,hgE⟩:=h.ends.form (by omega)
 have HR:=hide h
 have HO:=hide ho
 clear h ho
 go_enter Tryz.func107,Tryz.ntmps107
 go_wp2
 go_loopw [7] (fun f wr=>∃ k:Nat,k≤j∧f = .int .i64 k∧Below w.heap.size w wr∧((List.range' k (j - k)).any fun f=>lAt ts f == kFby && decide (j<behindF ts (f+1)))=delayedR ts fr j) (fun f _=>j - (intOf f).toNat)
 case atStart=>exact ⟨fr,hfj,rfl,Below.refl _ _,rfl⟩
 case round=>
  obtain ⟨k,hk,rfl,hbel,hrec⟩:=hrel
  have c0:=(HR.out.below hbel).c0
  have c1:=(HR.out.below hbel).c1
  by_cases hlt:k<j
  ·obtain ⟨a,ha⟩:∃ a,a=rtok (tkAt ts k):=⟨_,rfl⟩
   obtain ⟨x0,x1,x2,x3⟩:=HR.out.toks.cells hbel (show k<ts.length by omega) a ha
   have hkw:=(HO.out.F k).kw kFby (by decide)
   rw [← ha] at hkw
   have r1:=end_later HR.out.ends hbel hgE (show k+1<ts.length by omega)
   have j1:(0:Int)≤(k:Int):=by omega
   have j2:(k:Int)<(ts.length:Int):=by omega
   have j3:(0:Int)≤(k:Int)+1:=by omega
   have j4:(k:Int)+1<(ts.length:Int):=by omega
   have j5:(k:Int)<(j:Int):=by omega
   have hbl:=behindF_le ts (k+1) (by omega)
   rw [any_range _ _ hlt] at hrec
   generalize behindF ts (k+1)=b at r1 hrec hbl
   by_cases hf:a.l=kFby
   ·have q1:=str_yes (t:=a.word) hf
    simp only [kFby] at q1
    have hl:(lAt ts k == kFby)=true:=by rw [beq_iff_eq];exact hkw.1 hf
    rw [hl,Bool.true_and] at hrec
    by_cases hb:j<b
    ·have q2:(j:Int)<(b:Int):=by omega
     rw [decide_eq_true hb,Bool.true_or] at hrec
     have HRC:=hide hrec
     clear hrec hl hf hb hkw ha
     go_wp2
     go_ret
     exact ⟨by rw [← HRC.out];rfl,by first | exact hbel | exact below_drewN hbel _⟩
    ·have q2:¬ (j:Int)<(b:Int):=by omega
     rw [decide_eq_false hb,Bool.false_or] at hrec
     have HRC:=hide hrec
     clear hrec hl hf hb hkw ha
     go_wp2
     go_roundw
     case rel=>exact ⟨k+1,by omega,by go_num,by first | exact hbel | exact below_drewN hbel _,HRC.out⟩
     case measure=>simp [intOf];omega
   ·have q1:=str_no (t:=a.word) hf
    simp only [kFby] at q1
    have hl:(lAt ts k == kFby)=false:=by rw [beq_eq_false_iff_ne];exact fun e=>hf (hkw.2 e)
    rw [hl,Bool.false_and,Bool.false_or] at hrec
    have HRC:=hide hrec
    clear hrec hl hf hkw ha
    go_wp2
    go_roundw
    case rel=>exact ⟨k+1,by omega,by go_num,by first | exact hbel | exact below_drewN hbel _,HRC.out⟩
    case measure=>simp [intOf];omega
  ·have e0:j - k=0:=by omega
   rw [e0] at hrec
   have HRC:=hide hrec
   have z1:¬ (k:Int)<(j:Int):=by omega
   clear hrec e0
   go_wp2
   go_ret
   exact ⟨by rw [← HRC.out];rfl,hbel⟩
theorem phase_col (M:Mx) (k i:Nat):phase M k i k=M i k:=by unfold phase;cases h:M i k <;> simp
theorem midM_col (M:Mx) (k f m:Nat):midM M k f m f k=M f k:=by
 unfold midM
 split
 ·exact phase_col M k f
 ·rfl
theorem midM_put (M:Mx) (k f m:Nat) (v:Bool) (hv:v=phase M k f m):upd (midM M k f m) f m v=midM M k f (m+1):=by
 funext i j
 unfold upd midM
 by_cases e:i=f∧j=m
 ·obtain ⟨rfl,rfl⟩:=e
  rw [if_pos ⟨rfl,rfl⟩,if_pos (.inr ⟨rfl,by omega⟩),hv]
 ·rw [if_neg e]
  by_cases h:i<f∨(i=f∧j<m)
  ·rw [if_pos h,if_pos (by omega)]
  ·rw [if_neg h,if_neg (by omega)]
set_option maxHeartbeats 2000000 in
set_option maxRecDepth 100000 in
theorem rcircles_any (w:World) (a:Option Addr) (g n cap B:Nat) (R:Nat→Nat) (M:Mx) (h:Mat w g n R M) (ha:0<n→a=some ⟨g,0,none⟩) (hn:n≤1501) (hB:B≤w.heap.size) (hR:∀ i,i<n→B≤R i) :
  Calls Tryz.prog 76 #[.slice a n cap] w fun e w'=>∃ G,e = .returned (.slice (some ⟨G,0,none⟩) n n)∧B≤G∧w'.rowIs G 4 n (fun i=>.bool (warsh M n i i))∧Below B w w':=by
 have hm2:=run_make_row' (P:=Tryz.prog) 97 4 (.bool false) 1 Tryz.underlying97 Tryz.infoBool rfl .i64 .i64 n (by omega) (by omega)
 have HM:=hide h
 have HA:=hide ha
 have HR:=hide hR
 clear h ha hR
 go_enter Tryz.func76,Tryz.ntmps76
 go_wp2
 go_loopw [4] (fun i wr=>∃ k:Nat,k≤n∧i = .int .i64 k∧Mat wr g n R (warsh M k)∧Below B w wr) (fun i _=>n - (intOf i).toNat)
 case atStart=>exact ⟨0,Nat.zero_le _,rfl,HM.out,Below.refl _ _⟩
 case round=>
  clear HM
  obtain ⟨k,hk,rfl,hmat,hro⟩:=hrel
  by_cases hlt:k<n
  ·have hag:=HA.out (by omega)
   subst hag
   have HW:Hid (warsh M (k+1)=phase (warsh M k) k):=hide rfl
   generalize warsh M k=Mk at *
   have HMAT:=hide hmat
   have HRO:=hide hro
   have j3:(0:Int)≤(k:Int):=by omega
   have j4:(k:Int)<(n:Int):=by omega
   clear hmat hro
   go_wp2
   go_loopw [5] (fun i wr=>∃ f:Nat,f≤n∧i = .int .i64 f∧Mat wr g n R (midM Mk k f 0)∧Below B w wr) (fun i _=>n - (intOf i).toNat)
   case atStart=>exact ⟨0,Nat.zero_le _,rfl,by rw [midM_zero];exact HMAT.out,HRO.out⟩
   case round=>
    clear HMAT HRO
    obtain ⟨f,hf,rfl,hmat,hro⟩:=hrel
    by_cases hfl:f<n
    ·have HMAT:=hide hmat
     have HRO:=hide hro
     have j1:(0:Int)≤(f:Int):=by omega
     have j2:(f:Int)<(n:Int):=by omega
     clear hmat hro
     go_wp2
     go_loopw [6] (fun i wr=>∃ m:Nat,m≤n∧i = .int .i64 m∧Mat wr g n R (midM Mk k f m)∧Below B w wr) (fun i _=>n - (intOf i).toNat)
     case atStart=>exact ⟨0,Nat.zero_le _,rfl,HMAT.out,HRO.out⟩
     case round=>
      clear HMAT HRO
      obtain ⟨m,hm,rfl,hmat,hro⟩:=hrel
      by_cases hml:m<n
      ·have o1:=hmat.outer f hfl
       have o2:=hmat.outer k hlt
       have x2:=hmat.cell (i:=k) (j:=m) hlt hml
       rw [midM_between Mk k f m m (by omega)] at x2
       have x3:=hmat.cell (i:=f) (j:=m) hfl hml
       rw [midM_here Mk k f m m (by omega)] at x3
       have x4:=hmat.cell (i:=f) (j:=k) hfl hlt
       rw [midM_col] at x4
       have f3:=hmat.froz hfl m
       have HMAT:=hide hmat
       have HRO:=hide hro
       have j5:(0:Int)≤(m:Int):=by omega
       have j6:(m:Int)<(n:Int):=by omega
       have HPH:Hid (phase Mk k f m=(Mk f m || (Mk f k && Mk k m))):=hide rfl
       have HBf:=hide (HR.out f hfl)
       have HX:Hid (∀ (W:World) (V:Bool),Mat W g n R (midM Mk k f m)→V=phase Mk k f m→Mat (W.setCell ⟨R f,m,none⟩ (.bool V)) g n R (midM Mk k f (m+1))):=hide (fun W V hW hV=>by
        rw [← midM_put Mk k f m V hV];exact hW.set hfl m V)
       clear hmat hro
       generalize hv1:Mk f m=v1 at x3 HPH
       generalize hv2:Mk f k=v2 at x4 HPH
       generalize hv3:Mk k m=v3 at x2 HPH
       clear hv1 hv2 hv3
       have hc:v1=true∨(v1=false∧v2=false)∨(v1=false∧v2=true):=by cases v1 <;> cases v2 <;> simp
       rcases hc with rfl | ⟨rfl,rfl⟩ | ⟨rfl,rfl⟩
       all_goals
        go_wp2_with fail
        go_big_region
        go_wp2
        go_roundw
        case rel=>
         exact ⟨m+1,by omega,by go_num,(HX.out _ _ HMAT.out (by rw [HPH.out];rfl)).drew,(HRO.out.setCell HBf.out _).drew⟩
        case measure=>simp [intOf];omega
      ·have HMAT:=hide hmat
       have HRO:=hide hro
       clear hmat hro
       go_wp2
       go_roundw
       case rel=>exact ⟨f+1,by omega,by go_num,HMAT.out.congr (midM_done Mk n k f m (by omega)),HRO.out⟩
       case measure=>simp [intOf];omega
    ·have HMAT:=hide hmat
     have HRO:=hide hro
     clear hmat hro
     go_wp2
     go_roundw
     case rel=>exact ⟨k+1,by omega,by go_num,by rw [HW.out];exact HMAT.out.congr (midM_all Mk n k f (by omega)),HRO.out⟩
     case measure=>simp [intOf];omega
  ·have ek:k=n:=by omega
   subst ek
   have HMAT:=hide hmat
   have HRO:=hide hro
   clear hmat hro
   go_wp2
   generalize hWM:warsh M k=WM at HMAT ⊢
   have hGB:B≤wr.heap.size:=Nat.le_trans hB HRO.out.size
   have HGM:Hid (∀ i,i<k→R i≠wr.heap.size∧g≠wr.heap.size):=hide (fun i hi=>⟨by have:=World.rowIs.lt (HMAT.out.rows i hi);omega,by have:=HMAT.out.lt (by omega);omega⟩)
   obtain ⟨G,hG⟩:∃ G,G=wr.heap.size:=⟨_,rfl⟩
   rw [← hG] at HGM hGB ⊢
   have HR0:Hid ((wr.alloc (.cells (madeCells #[.bool false] k) 4)).rowIs G 4 k (fun _=>.bool false)):=hide (by rw [hG];exact World.rowIs_made wr (.bool false) k 4)
   have HRW:Hid (Below B w (wr.alloc (.cells (madeCells #[.bool false] k) 4))):=hide (HRO.out.alloc (Nat.le_trans hB HRO.out.size) _)
   have HMW:=hide (HMAT.out.alloc (.cells (madeCells #[.bool false] k) 4))
   clear hG
   go_loopw [8] (fun i wx=>∃ m:Nat,m≤k∧i = .int .i64 m∧Mat wx g k R WM∧wx.rowIs G 4 k (fun i=>if i<m then .bool (WM i i) else .bool false)∧Below B w wx) (fun i _=>k - (intOf i).toNat)
   case atStart=>exact ⟨0,Nat.zero_le _,rfl,HMW.out,HR0.out.congr (fun i _=>by simp),HRW.out⟩
   case round=>
    clear HMAT HRO HRW HMW HR0
    obtain ⟨m,hm,rfl,hmat,hrow,hbel⟩:=hrel
    by_cases hml:m<k
    ·have hag:=HA.out (by omega)
     subst hag
     have o1:=hmat.outer m hml
     have x1:=hmat.cell hml hml
     have g1:=hrow.cell hml
     rw [if_neg (by omega)] at g1
     have g2:=hrow.frozen m
     have HMAT:=hide hmat
     have HROW:=hide hrow
     have j5:(0:Int)≤(m:Int):=by omega
     have j6:(m:Int)<(k:Int):=by omega
     clear hmat hrow
     go_wp2
     go_roundw
     case rel=>
      refine ⟨m+1,by omega,by go_num,HMAT.out.keep (heap_setCell_other wr ⟨G,m,none⟩ g _ (HGM.out m hml).2) (fun i hi=>heap_setCell_other wr ⟨G,m,none⟩ (R i) _ (HGM.out i hi).1),?_,hbel.setCell hGB _⟩
      refine (HROW.out.set m (.bool (WM m m))).congr (fun i hi=>?_)
      by_cases e:i=m
      ·subst e;rw [if_pos rfl,if_pos (by omega)]
      ·rw [if_neg e]
       by_cases h2:i<m
       ·rw [if_pos h2,if_pos (by omega)]
       ·rw [if_neg h2,if_neg (by omega)]
     case measure=>simp [intOf];omega
    ·have em:m=k:=by omega
     subst em
     have HROW:=hide hrow
     clear hmat hrow
     go_wp2
     go_ret
     subst hWM
     refine ⟨G,rfl,hGB,?_,hbel⟩
     exact HROW.out.congr (fun i hi=>by rw [if_pos hi])
def rowSl (n:Nat) (rs:List Nat):List Value:=rs.map fun r=>Value.slice (some ⟨r,0,none⟩) n n
theorem rowSl_snoc (n:Nat) (rs:List Nat) (r:Nat):rowSl n (rs ++ [r])=rowSl n rs ++ [.slice (some ⟨r,0,none⟩) n n]:=by simp [rowSl]
set_option maxHeartbeats 1000000 in
set_option maxRecDepth 100000 in
theorem rsquare_any (w:World) (n:Nat) (hn:n≤1501) :
  Calls Tryz.prog 74 #[.int .i64 (n:Int)] w fun e w'=>∃ (v:Value) (rs:List Nat),e = .returned v∧rs.length=n∧w'.ownsRow w.heap.size 97 1 v n (rowSl n rs)∧
   (∀ r∈rs,w.heap.size≤r∧v.ownBlock≠some r∧w'.rowIs r 4 n (fun _=>.bool false))∧rs.Nodup∧Below w.heap.size w w':=by
 obtain ⟨i0,hi0,hz0,hz1,hz2⟩:=info_parts Tryz.infoBools
 have hm2:=run_make_row' (P:=Tryz.prog) 97 4 (.bool false) 1 Tryz.underlying97 Tryz.infoBool rfl .i64 .i64 n (by omega) (by omega)
 go_enter Tryz.func74,Tryz.ntmps74
 go_wp2
 go_loopw [3,4] (fun v i wr=>∃ (k:Nat) (rs:List Nat),k≤n∧i = .int .i64 k∧rs.length=k∧wr.ownsRow w.heap.size 97 1 v k (rowSl n rs)∧
   (∀ r∈rs,w.heap.size≤r∧v.ownBlock≠some r∧wr.rowIs r 4 n (fun _=>.bool false))∧rs.Nodup∧Below w.heap.size w wr) (fun _ i _=>n - (intOf i).toNat)
 case atStart=>exact ⟨0,[],Nat.zero_le _,rfl,rfl,World.ownsRow_nil _ _ _ _,fun r hr=>by simp at hr,List.nodup_nil,Below.refl _ _⟩
 case round=>
  obtain ⟨k,rs,hk,rfl,hrl,hown,hrows,hnd,hbel⟩:=hrel
  have HRL:=hide hrl
  have HRW:=hide hrows
  have HND:=hide hnd
  have hbs:=hbel.size
  clear hrl hrows hnd
  by_cases hlt:k<n
  ·have HOV:=hide hown.lt
   go_wp2_with (at_builtin;refine wpList_append_lies _ rfl _ _ _ rfl w.heap.size 97 i0 _ 1 24 Tryz.underlying122 hi0 hz0 hz1 hz2 rfl (by omega) _ k (rowSl n rs) rfl ((hown.alloc _).alloc _) ⟨wr.heap.size+1,0,none⟩ 1 1 [.slice (some ⟨wr.heap.size,0,none⟩) n n] rfl rfl (World.news_of_block (cs:=#[.slice (some ⟨wr.heap.size,0,none⟩) n n]) (t:=97) (fr:=(0,0)) (by have:=heap_alloc_new (wr.alloc (.cells (madeCells #[.bool false] n) 4)) (.cells #[.slice (some ⟨wr.heap.size,0,none⟩) n n] 97);simpa using this)) (by simp [Value.oneCell']) (by omega) (by unfold maxLen;omega) (by omega) (by simp;omega) (wr.heap.size+2) (by simp) ?_;intro gg cap2 w3 hown3 hgrow hat hlt3)
   go_roundw
   case rel=>
    have hsz3:=hgrow.size
    simp at hsz3
    have hnr:∀ r∈rs,r<wr.heap.size:=fun r hr=>World.rowIs.lt (HRW.out r hr).2.2
    refine ⟨k+1,rs ++ [wr.heap.size],by omega,by go_num,by rw [List.length_append,HRL.out];rfl,?_,?_,?_,?_⟩
    ·rw [rowSl_snoc];exact hown3
    ·intro r hr
     rcases List.mem_append.1 hr with hr | hr
     ·obtain ⟨h1,h2,h3⟩:=HRW.out r hr
      have hrl:=hnr r hr
      refine ⟨h1,?_,?_⟩
      ·intro e
       have e':gg=r:=by simpa [Value.ownBlock] using e
       rcases hat with hat | hat
       ·rw [e'] at hat;exact h2 hat
       ·omega
      ·refine World.rowIs.of_block ((h3.alloc _).alloc _) (hgrow.block r (by simp;omega) (fun e=>h2 e.symm))
     ·rw [List.mem_singleton] at hr
      subst hr
      refine ⟨hbs,?_,?_⟩
      ·intro e
       have e':gg=wr.heap.size:=by simpa [Value.ownBlock] using e
       rcases hat with hat | hat
       ·rw [e'] at hat;have:=(HOV.out _ hat).2;omega
       ·omega
      ·refine World.rowIs.of_block ((World.rowIs_made wr (.bool false) n 4).alloc _) (hgrow.block wr.heap.size (by simp;omega) (fun e=>by have:=(HOV.out _ e.symm).2;omega))
    ·rw [List.nodup_append]
     refine ⟨HND.out,by simp,fun a ha b hb=>?_⟩
     rw [List.mem_singleton] at hb
     have:=hnr a ha
     omega
    ·exact ((hbel.alloc hbel.size _).alloc (by simp;omega) _).grown hgrow (by simp;omega) (fun j hj=>ownBlock_ge hown j hj)
   case measure=>simp [intOf];omega
  ·have ek:k=n:=by omega
   subst ek
   have HO:=hide hown
   clear hown
   go_wp2
   go_ret
   exact ⟨_,rs,rfl,HRL.out,HO.out,HRW.out,HND.out,hbel⟩
theorem square_mat {w':World}{B n:Nat}{v:Value}{rs:List Nat} (hl:rs.length=n) (hown:w'.ownsRow B 97 1 v n (rowSl n rs)) (hrows:∀ r∈rs,B≤r∧v.ownBlock≠some r∧w'.rowIs r 4 n (fun _=>.bool false)) (hnd:rs.Nodup) :
  ∃ (a:Option Addr) (g cap:Nat) (R:Nat→Nat),v = .slice a n cap∧(0<n→a=some ⟨g,0,none⟩)∧Mat w' g n R noM∧(∀ i,i<n→B≤R i)∧B≤g:=by
 rcases Nat.eq_zero_or_pos n with hz | hp
 ·obtain ⟨a,cap,hv,_⟩:=own_shape hown
  refine ⟨a,B,cap,fun _=>0,hv,fun h=>by omega,⟨fun i hi=>by omega,fun i hi=>by omega,fun i j hi=>by omega,fun i hi=>by omega⟩,fun i hi=>by omega,Nat.le_refl _⟩
 ·obtain ⟨g,cap,rfl,h1,h2⟩:=hown.form hp
  have hat:∀ i,(hi:i<n)→rs[i]'(by omega)∈rs:=fun i hi=>List.getElem_mem _
  refine ⟨some ⟨g,0,none⟩,g,cap,fun i=>rs.getD i 0,rfl,fun _=>rfl,⟨fun i hi=>?_,fun i hi=>?_,fun i j hi hj e=>?_,fun i hi e=>?_⟩,fun i hi=>?_,h1⟩
  ·rw [hown.cellAt i (by omega)]
   unfold rowSl
   rw [List.getElem?_map,List.getElem?_eq_getElem (by omega)]
   show some _=some (Value.slice (some ⟨rs.getD i 0,0,none⟩) n n)
   rw [List.getD_eq_getElem?_getD,List.getElem?_eq_getElem (by omega)]
   rfl
  ·show w'.rowIs (rs.getD i 0) _ _ _
   rw [List.getD_eq_getElem?_getD,List.getElem?_eq_getElem (by omega)]
   exact (hrows _ (hat i hi)).2.2
  ·have e':rs.getD i 0=rs.getD j 0:=e
   rw [List.getD_eq_getElem?_getD,List.getD_eq_getElem?_getD,List.getElem?_eq_getElem (show i<rs.length by omega),List.getElem?_eq_getElem (show j<rs.length by omega)] at e'
   have e2:rs[i]'(by omega)=rs[j]'(by omega):=e'
   rcases Nat.lt_trichotomy i j with hh | hh | hh
   ·exact absurd e2 ((List.pairwise_iff_getElem.1 hnd) i j (by omega) (by omega) hh)
   ·exact hh
   ·exact absurd e2.symm ((List.pairwise_iff_getElem.1 hnd) j i (by omega) (by omega) hh)
  ·have e':rs.getD i 0=g:=e
   rw [List.getD_eq_getElem?_getD,List.getElem?_eq_getElem (show i<rs.length by omega)] at e'
   have e2:rs[i]'(by omega)=g:=e'
   exact (hrows _ (hat i hi)).2.1 (by rw [e2];rfl)
  ·show B≤rs.getD i 0
   rw [List.getD_eq_getElem?_getD,List.getElem?_eq_getElem (by omega)]
   exact (hrows _ (hat i hi)).1
theorem dec_step (d:RDc) (w:World) {wr:World} (hb:Below (w.alloc (.cells #[.string d.name,.int .i64 (d.tok:Int),.bool d.input,.bool d.truth,.int .i64 (d.place:Int),.int .i64 (d.body:Int)] 105)).heap.size (w.alloc (.cells #[.string d.name,.int .i64 (d.tok:Int),.bool d.input,.bool d.truth,.int .i64 (d.place:Int),.int .i64 (d.body:Int)] 105)) wr) :
  wr.cell? ⟨w.heap.size,5,none⟩=some (.int .i64 (d.body:Int))∧wr.cell? ⟨w.heap.size,4,none⟩=some (.int .i64 (d.place:Int))∧Below w.heap.size w wr:=by
 have hN:=(hb.block w.heap.size (by simp)).trans (heap_alloc_new w _)
 refine ⟨?_,?_,((Below.refl _ _).alloc (Nat.le_refl _) _).trans (hb.mono (by simp))⟩
 ·rw [cell_of_row wr _ 5 _ _ _ hN];rfl
 ·rw [cell_of_row wr _ 4 _ _ _ hN];rfl
set_option maxHeartbeats 1000000 in
theorem rhangs_any (w:World) (q g cap:Nat) (ts:List Tk) (L:List Dl) (vE vA vI vQ:Value) (h:RProg w q g cap ts L vE vA vI vQ) (ho:ROk ts L) (x:Dl) (hx:x∈eqL L) (name:ByteArray) :
  Calls Tryz.prog 75 #[.pointer (some ⟨q,0,none⟩),(rdc ts x).val,.string name] w fun e w'=>e = .returned (.bool (hangsR ts x name.data.toList))∧Below w.heap.size w w':=by
 have hlen:=ho.len
 have hpos:=ho.pos
 obtain ⟨gE,capE,rfl,_,hgE⟩:=h.ends.form (by omega)
 obtain ⟨hxm,hxk,hxs,hxl,_⟩:=ho.eq hx
 have hbd:(rdc ts x).body=x.i+5:=by unfold rdc;rw [if_neg hxk]
 have hbe:behindF ts (x.i+5)=x.i+5+x.t.len:=behind_sp ho.F x.t (x.i+5) hxs (by omega)
 have HR:=hide h
 have HO:=hide ho
 generalize rdc ts x=d at hbd
 obtain ⟨b,hb⟩:∃ b,b=x.i+5:=⟨_,rfl⟩
 obtain ⟨e,he⟩:∃ e,e=b+x.t.len:=⟨_,rfl⟩
 rw [← hb] at hbe hbd
 rw [← he] at hbe
 have HBE:=hide hbe
 have HHG:Hid (((List.range' b (e - b)).any fun j=>isNm ts j && (lAt ts j == name.data.toList && !delayedR ts b j))=hangsR ts x name.data.toList):=hide (by unfold hangsR;rw [← hb,he,Nat.add_sub_cancel_left])
 have hel:e<ts.length:=by omega
 have hble:b≤e:=by omega
 have HB:=hide (fun wr hb=>dec_step d w (wr:=wr) hb)
 rw [hbd] at HB
 clear hbe he hb h ho hxs hxm hxk hx
 obtain ⟨W0,hW0⟩:∃ W0,W0=w.alloc (.cells #[.string d.name,.int .i64 (d.tok:Int),.bool d.input,.bool d.truth,.int .i64 (d.place:Int),.int .i64 (b:Int)] 105):=⟨_,rfl⟩
 rw [← hW0] at HB
 obtain ⟨t0,_,t2⟩:=HB.out W0 (Below.refl _ _)
 have r0:=end_later HR.out.ends t2 hgE (show b<ts.length by omega)
 have c1:=(HR.out.below t2).c1
 rw [HBE.out] at r0
 have j1:(0:Int)≤(b:Int):=by omega
 have j2:(b:Int)<(ts.length:Int):=by omega
 show Calls Tryz.prog 75 #[.pointer (some ⟨q,0,none⟩),.agg #[.string d.name,.int .i64 (d.tok:Int),.bool d.input,.bool d.truth,.int .i64 (d.place:Int),.int .i64 (d.body:Int)],.string name] w _
 rw [hbd]
 have HW0:=hide hW0
 clear hbd hW0
 go_enter Tryz.func75,Tryz.ntmps75
 go_wp2
 rw [← HW0.out]
 go_loopw [7] (fun f wr=>∃ k:Nat,b≤k∧k≤e∧f = .int .i64 k∧Below W0.heap.size W0 wr∧((List.range' k (e - k)).any fun j=>isNm ts j && (lAt ts j == name.data.toList && !delayedR ts b j))=hangsR ts x name.data.toList) (fun f _=>e - (intOf f).toNat)
 case atStart=>exact ⟨b,Nat.le_refl _,hble,rfl,Below.refl _ _,HHG.out⟩
 case round=>
  clear t0 c1 r0
  obtain ⟨k,hk0,hk,rfl,hbel,hrec⟩:=hrel
  obtain ⟨t0,_,hbw⟩:=HB.out wr hbel
  have hrp:=HR.out.below hbw
  have c0:=hrp.c0
  have c1:=hrp.c1
  have r0:=end_later HR.out.ends hbw hgE (show b<ts.length by omega)
  rw [HBE.out] at r0
  by_cases hlt:k<e
  ·have j5:(k:Int)<(e:Int):=by omega
   have j3:(0:Int)≤(k:Int):=by omega
   have j4:(k:Int)<(ts.length:Int):=by omega
   rw [any_range _ _ hlt] at hrec
   have HRC:=hide hrec
   have HRP:=hide hrp
   clear hrec hrp
   go_wp2_with fail
   go_quiet (fail)
   go_wp2_with fail
   have hdr:Below wr.heap.size wr (wr.drewN nq):=below_drewN (Below.refl _ _) _
   refine (rdelayed_any _ q g cap ts L _ _ _ _ (HRP.out.below hdr) HO.out b k hk0 (by omega)).mono ?_
   rintro e1 w2 ⟨rfl,hb2⟩
   have hbx:Below wr.heap.size wr w2:=hdr.trans (hb2.mono hdr.size)
   have hbel2:Below W0.heap.size W0 w2:=hbel.trans (hbx.mono hbel.size)
   have hbw2:Below w.heap.size w w2:=hbw.trans (hbx.mono hbw.size)
   clear hdr hb2 hbx hbel hbw c0 c1 r0 t0
   have c0:=(HR.out.below hbw2).c0
   obtain ⟨a,ha⟩:∃ a,a=rtok (tkAt ts k):=⟨_,rfl⟩
   obtain ⟨x0,x1,x2,x3⟩:=HR.out.toks.cells hbw2 (show k<ts.length by omega) a ha
   have hc:=c97 (tkAt ts k)
   rw [← ha] at hc
   have hrec:=HRC.out
   generalize delayedR ts b k=lt at hrec ⊢
   by_cases hnm:(tkAt ts k).kind=1
   ·have q1:((a.c:Int) == 97)=true:=by
     rw [show (97:Int)=((97:Nat):Int) from rfl,beq_cast,hc,hnm];rfl
    have hw:a.word=(tkAt ts k).text:=by rw [ha];unfold rtok;simp [hnm]
    obtain ⟨ee,qE⟩:∃ ee,(a.word.toList == name.toList)=ee:=⟨_,rfl⟩
    have eE:(lAt ts k == name.data.toList)=ee:=by
     rw [← qE,ByteArray.toList_eq,ByteArray.toList_eq,hw];rfl
    rw [eE,show isNm ts k=true by unfold isNm;rw [hnm];rfl,Bool.true_and] at hrec
    have HRX:=hide hrec
    have HB2:=hide (And.intro hbel2 hbw2)
    clear hrec hc hnm ha hw eE HRC
    cases ee
    ·have HR2:Hid (((List.range' (k+1) (e - (k+1))).any fun j=>isNm ts j && (lAt ts j == name.data.toList && !delayedR ts b j))=hangsR ts x name.data.toList):=hide (by rw [← HRX.out];simp)
     clear HRX
     go_wp2
     go_roundw
     case rel=>exact ⟨k+1,by omega,by omega,by go_num,by first | exact HB2.out.1 | exact below_drewN HB2.out.1 _,HR2.out⟩
     case measure=>simp [intOf];omega
    ·cases lt
     ·have HR2:Hid (hangsR ts x name.data.toList=true):=hide (by rw [← HRX.out];simp)
      clear HRX
      go_wp2
      go_ret
      exact ⟨by rw [HR2.out];rfl,by first | exact HB2.out.2 | exact below_drewN HB2.out.2 _⟩
     ·have HR2:Hid (((List.range' (k+1) (e - (k+1))).any fun j=>isNm ts j && (lAt ts j == name.data.toList && !delayedR ts b j))=hangsR ts x name.data.toList):=hide (by rw [← HRX.out];simp)
      clear HRX
      go_wp2
      go_roundw
      case rel=>exact ⟨k+1,by omega,by omega,by go_num,by first | exact HB2.out.1 | exact below_drewN HB2.out.1 _,HR2.out⟩
      case measure=>simp [intOf];omega
   ·have q1:((a.c:Int) == 97)=false:=by
     rw [show (97:Int)=((97:Nat):Int) from rfl,beq_cast,hc];exact beq_eq_false_iff_ne.2 hnm
    have hno:isNm ts k=false:=by unfold isNm;exact beq_eq_false_iff_ne.2 hnm
    have HR2:Hid (((List.range' (k+1) (e - (k+1))).any fun j=>isNm ts j && (lAt ts j == name.data.toList && !delayedR ts b j))=hangsR ts x name.data.toList):=hide (by rw [← hrec,hno];simp)
    have HB2:=hide (And.intro hbel2 hbw2)
    clear hrec hc hnm ha hno HRC
    go_wp2
    go_roundw
    case rel=>exact ⟨k+1,by omega,by omega,by go_num,by first | exact HB2.out.1 | exact below_drewN HB2.out.1 _,HR2.out⟩
    case measure=>simp [intOf];omega
  ·have ek:e - k=0:=by omega
   rw [ek] at hrec
   have HRC:=hide hrec
   have z1:¬ (k:Int)<(e:Int):=by omega
   have HBW:=hide hbw
   clear hrec ek hrp
   go_wp2_with fail
   go_quiet (fail)
   go_wp2
   go_ret
   exact ⟨by rw [← HRC.out];rfl,below_drewN HBW.out _⟩
set_option maxHeartbeats 2000000 in
set_option maxRecDepth 100000 in
theorem rcycle_any (w:World) (q g cap:Nat) (ts:List Tk) (L:List Dl) (vE vA vI vQ:Value) (h:RProg w q g cap ts L vE vA vI vQ) (ho:ROk ts L) :
  Calls Tryz.prog 45 #[.pointer (some ⟨q,0,none⟩)] w fun e w'=>e = .returned (optI (cycR ts L))∧Below w.heap.size w w':=by
 obtain ⟨hm1,hm2,hm3⟩:=ho.many
 obtain ⟨av,cv,rfl,hsh⟩:=own_shape h.eqs
 have c4:=h.c4
 have HR:=hide h
 have HO:=hide ho
 have HSH:=hide hsh
 clear h ho hsh
 go_enter Tryz.func45,Tryz.ntmps45
 go_wp2_with fail
 refine (rsquare_any w (eqL L).length hm2).mono ?_
 rintro e w1 ⟨v,rs,rfl,hrl,hown,hrows,hnd,hb1⟩
 obtain ⟨a,g2,cap2,R,rfl,hag,hmat,hRB,hg2⟩:=square_mat hrl hown hrows hnd
 have HAG:=hide hag
 have HRB:=hide hRB
 have HM1:=hide hmat
 have c4':=(HR.out.below hb1).c4
 clear hrl hown hrows hnd hag hmat hRB c4
 go_wp2
 -- the rows,marked as far as row k
 go_loopw [4] (fun i wr=>∃ (k:Nat) (M:Mx),k≤(eqL L).length∧i = .int .i64 k∧Mat wr g2 (eqL L).length R M∧Below w.heap.size w wr∧agree (eqL L).length M (fun i j=>if i<k then relR ts L i j else false)) (fun i _=>(eqL L).length - (intOf i).toNat)
 case atStart=>exact ⟨0,noM,Nat.zero_le _,rfl,HM1.out,hb1,fun i j _ _=>by simp [noM]⟩
 case round=>
  clear HM1 hb1 c4'
  obtain ⟨k,M,hk,rfl,hmat,hbel,hagr⟩:=hrel
  have c4:=(HR.out.below hbel).c4
  have HMAT:=hide hmat
  have HAGR:=hide hagr
  clear hmat hagr
  by_cases hlt:k<(eqL L).length
  ·have hag:=HAG.out (by omega)
   subst hag
   obtain ⟨gq,hgq,_,hgq2⟩:=HSH.out (by omega)
   subst hgq
   have j1:(0:Int)≤(k:Int):=by omega
   have j2:(k:Int)<((eqL L).length:Int):=by omega
   obtain ⟨x,hx⟩:∃ x,x=(eqL L)[k]'hlt:=⟨_,rfl⟩
   have HXM:Hid (x∈eqL L):=hide (by rw [hx];exact List.getElem_mem hlt)
   have HX:=hide hx
   clear hx
   go_wp2
   go_loopw [5] (fun i wr=>∃ (m:Nat) (M:Mx),m≤(eqL L).length∧i = .int .i64 m∧Mat wr g2 (eqL L).length R M∧Below w.heap.size w wr∧agree (eqL L).length M (fun i j=>if i<k∨(i=k∧j<m) then relR ts L i j else false)) (fun i _=>(eqL L).length - (intOf i).toNat)
   case atStart=>exact ⟨0,M,Nat.zero_le _,rfl,HMAT.out,hbel,fun i j hi hj=>by rw [HAGR.out i j hi hj];simp⟩
   case round=>
    clear HMAT HAGR c4 hbel
    obtain ⟨m,M2,hm,rfl,hmat,hbel,hagr⟩:=hrel
    have c4:=(HR.out.below hbel).c4
    by_cases hml:m<(eqL L).length
    ·have j3:(0:Int)≤(m:Int):=by omega
     have j4:(m:Int)<((eqL L).length:Int):=by omega
     obtain ⟨d,hd⟩:∃ d,d=rdc ts x:=⟨_,rfl⟩
     obtain ⟨y0,y1,y2,y3,y4,y5⟩:=rd_later HR.out.eqs hbel hgq2 hlt d (by rw [hd,HX.out])
     obtain ⟨z,hz⟩:∃ z,z=(eqL L)[m]'hml:=⟨_,rfl⟩
     obtain ⟨z0,_⟩:=rd_later HR.out.eqs hbel hgq2 hml (rdc ts z) (by rw [hz])
     rw [(rdc_tok ts z).2] at z0
     have o1:=hmat.outer k hlt
     have o2:=hmat.cell hlt hml
     have o3:=hmat.froz hlt m
     have HMAT:=hide hmat
     have HAGR:=hide hagr
     have HD:=hide hd
     have HREL:Hid (relR ts L k m=hangsR ts x (nameD ts z).data.toList):=hide (by unfold relR;rw [List.getElem?_eq_getElem hlt,List.getElem?_eq_getElem hml,← HX.out,← hz])
     generalize nameD ts z=nm at z0 HREL
     clear hmat hagr hd hz
     have HRP:=hide (HR.out.below hbel)
     have HBL:=hide hbel
     have HCALL:Hid (∀ W,RProg W q g cap ts L vE vA vI (.slice (some ⟨gq,0,none⟩) (eqL L).length cv)→Calls Tryz.prog 75 #[.pointer (some ⟨q,0,none⟩),.agg #[.string d.name,.int .i64 (d.tok:Int),.bool d.input,.bool d.truth,.int .i64 (d.place:Int),.int .i64 (d.body:Int)],.string nm] W fun e w'=>e = .returned (.bool (hangsR ts x nm.data.toList))∧Below W.heap.size W w'):=hide (fun W hW=>by
      have hd:=HD.out
      subst hd
      exact rhangs_any W q g cap ts L _ _ _ _ hW HO.out x HXM.out nm)
     have l1:=HRP.out.lt
     have l2:gq<wr.heap.size:=by have:=hbel.size;omega
     have l3:=HMAT.out.lt (show 0<(eqL L).length by omega)
     have l4:=World.rowIs.lt (HMAT.out.rows k hlt)
     generalize hangsR ts x nm.data.toList=hg at HREL HCALL
     have lk:=HRB.out k hlt
     have lq:=HR.out.lt
     have n1:R k≠q:=by omega
     have n2:R k≠gq:=by omega
     have n3:R k≠g2:=HMAT.out.ne k hlt
     have n1':q≠R k:=by omega
     have n2':gq≠R k:=by omega
     have n3':g2≠R k:=Ne.symm n3
     go_wp2_with fail
     go_region_held3 (fun w'=>w'.cell? ⟨q,4,none⟩=some (.slice (some ⟨gq,0,none⟩) (eqL L).length cv)∧w'.cell? ⟨gq,k * 6,none⟩=some (.string d.name)∧w'.cell? ⟨gq,k * 6+1,none⟩=some (.int .i64 (d.tok:Int))∧w'.cell? ⟨gq,k * 6+2,none⟩=some (.bool d.input)∧w'.cell? ⟨gq,k * 6+3,none⟩=some (.bool d.truth)∧w'.cell? ⟨gq,k * 6+4,none⟩=some (.int .i64 (d.place:Int))∧w'.cell? ⟨gq,k * 6+5,none⟩=some (.int .i64 (d.body:Int))∧w'.cell? ⟨gq,m * 6,none⟩=some (.string nm)∧w'.cell? ⟨g2,k,none⟩=some (.slice (some ⟨R k,0,none⟩) (eqL L).length (eqL L).length)) (first | go_keep | exact ⟨(World.cell?_setCell_other _ _ _ _ (fun e=>n1 (congrArg Addr.block e))).trans t0,(World.cell?_setCell_other _ _ _ _ (fun e=>n2 (congrArg Addr.block e))).trans t1,(World.cell?_setCell_other _ _ _ _ (fun e=>n2 (congrArg Addr.block e))).trans t2,(World.cell?_setCell_other _ _ _ _ (fun e=>n2 (congrArg Addr.block e))).trans t3,(World.cell?_setCell_other _ _ _ _ (fun e=>n2 (congrArg Addr.block e))).trans t4,(World.cell?_setCell_other _ _ _ _ (fun e=>n2 (congrArg Addr.block e))).trans t5,(World.cell?_setCell_other _ _ _ _ (fun e=>n2 (congrArg Addr.block e))).trans t6,(World.cell?_setCell_other _ _ _ _ (fun e=>n2 (congrArg Addr.block e))).trans t7,(World.cell?_setCell_other _ _ _ _ (fun e=>n3 (congrArg Addr.block e))).trans t8⟩)
      ((go_at_call 75;refine (HCALL.out _ (HRP.out.below ((Below.refl _ _).drew))).mono ?_;rintro e w2 ⟨rfl,hbF⟩;have t0:=(hbF.cell (p:=⟨q,4,none⟩) l1).trans c4;have t1:=(hbF.cell (p:=⟨gq,k * 6,none⟩) l2).trans y0;have t2:=(hbF.cell (p:=⟨gq,k * 6+1,none⟩) l2).trans y1;have t3:=(hbF.cell (p:=⟨gq,k * 6+2,none⟩) l2).trans y2;have t4:=(hbF.cell (p:=⟨gq,k * 6+3,none⟩) l2).trans y3;have t5:=(hbF.cell (p:=⟨gq,k * 6+4,none⟩) l2).trans y4;have t6:=(hbF.cell (p:=⟨gq,k * 6+5,none⟩) l2).trans y5;have t7:=(hbF.cell (p:=⟨gq,m * 6,none⟩) l2).trans z0;have t8:=(hbF.cell (p:=⟨g2,k,none⟩) l3).trans o1;have t9:=(hbF.cell (p:=⟨R k,m,none⟩) l4).trans o2;have tf:=(hbF.frozen (p:=⟨R k,m,none⟩) l4).trans o3))
     rename_i hHeld
     clear hHeld
     have HM2:Hid (Mat w2 g2 (eqL L).length R M2):=hide (HMAT.out.keep (hbF.block g2 l3) (fun i hi=>hbF.block (R i) (World.rowIs.lt (HMAT.out.rows i hi))))
     have HB2:Hid (Below w.heap.size w w2):=hide (HBL.out.drew.trans (hbF.mono HBL.out.size))
     clear hbF t0 t1 t2 t3 t4 t5 t6 t7 t8 t9 tf y0 y1 y2 y3 y4 y5 z0 o1 o2 o3 c4
     go_wp2
     go_roundw
     case rel=>
      refine ⟨m+1,upd M2 k m hg,by omega,by go_num,HM2.out.set hlt m hg,HB2.out.setCell lk _,fun i j hi hj=>?_⟩
      show upd M2 k m hg i j=if i<k∨(i=k∧j<m+1) then relR ts L i j else false
      unfold upd
      by_cases e:i=k∧j=m
      ·obtain ⟨rfl,rfl⟩:=e
       rw [if_pos ⟨rfl,rfl⟩,if_pos (by omega)];exact HREL.out.symm
      ·rw [if_neg e,HAGR.out i j hi hj]
       show (if i<k∨(i=k∧j<m) then relR ts L i j else false)=_
       by_cases e2:i<k∨(i=k∧j<m)
       ·rw [if_pos e2,if_pos (by omega)]
       ·rw [if_neg e2,if_neg (by omega)]
     case measure=>simp [intOf];omega
    ·have HMAT:=hide hmat
     have HAGR:=hide hagr
     clear hmat hagr
     go_wp2
     go_roundw
     case rel=>exact ⟨k+1,M2,by omega,by go_num,HMAT.out,hbel,fun i j hi hj=>by
      rw [HAGR.out i j hi hj]
      show (if i<k∨(i=k∧j<m) then relR ts L i j else false)=if i<k+1 then relR ts L i j else false
      by_cases e:i<k∨(i=k∧j<m)
      ·rw [if_pos e,if_pos (by omega)]
      ·rw [if_neg e,if_neg (by omega)]⟩
     case measure=>simp [intOf];omega
  ·have ek:k=(eqL L).length:=by omega
   subst ek
   have HMR:Hid (Mat wr g2 (eqL L).length R (relR ts L)):=hide (HMAT.out.congr (fun i j hi hj=>by rw [HAGR.out i j hi hj];show (if i<(eqL L).length then _ else _)=_;rw [if_pos hi]))
   have z1:¬ ((eqL L).length:Int)<((eqL L).length:Int):=by omega
   clear HMAT HAGR
   go_wp2_with fail
   refine (rcircles_any wr a g2 (eqL L).length cap2 w.heap.size R (relR ts L) HMR.out HAG.out hm2 hbel.size HRB.out).mono ?_
   rintro e2 w2 ⟨G,rfl,hG,hrow,hb2⟩
   have hbel2:Below w.heap.size w w2:=hbel.trans hb2
   have HCY:Hid (firstC ts (warsh (relR ts L) (eqL L).length) 0 ((eqL L).drop 0)=cycR ts L):=hide rfl
   generalize warsh (relR ts L) (eqL L).length=W at hrow HCY
   have c4'':=(HR.out.below hbel2).c4
   have HROW:=hide hrow
   clear hrow hb2 hbel c4 HMR
   go_wp2
   go_loopw [7] (fun i wx=>∃ m:Nat,m≤(eqL L).length∧i = .int .i64 m∧wx.rowIs G 4 (eqL L).length (fun i=>.bool (W i i))∧Below w.heap.size w wx∧firstC ts W m ((eqL L).drop m)=cycR ts L) (fun i _=>(eqL L).length - (intOf i).toNat)
   case atStart=>exact ⟨0,Nat.zero_le _,rfl,HROW.out,hbel2,HCY.out⟩
   case round=>
    clear HROW hbel2 c4'' HCY
    obtain ⟨m,hm,rfl,hrow,hbel,hrec⟩:=hrel
    have c4:=(HR.out.below hbel).c4
    by_cases hml:m<(eqL L).length
    ·obtain ⟨gq,hgq,_,hgq2⟩:=HSH.out (by omega)
     subst hgq
     obtain ⟨x,hx⟩:∃ x,x=(eqL L)[m]'hml:=⟨_,rfl⟩
     have hxm:x∈L:=(HO.out.eq (by rw [hx];exact List.getElem_mem hml)).1
     have ht:=HO.out.tok hxm
     have hpos:=rdc_pos ts x
     obtain ⟨y0,y1,y2,y3,y4,y5⟩:=rd_later HR.out.eqs hbel hgq2 hml (rdc ts x) (by rw [hx])
     rw [List.drop_eq_getElem_cons hml,← hx] at hrec
     simp only [firstC] at hrec
     have r1:=hrow.cell hml
     have HRC:=hide hrec
     have HRW:=hide hrow
     have HRP:=hide (HR.out.below hbel)
     have HPX:=hide hpos
     have HTX:=hide ht
     have j3:(0:Int)≤(m:Int):=by omega
     have j4:(m:Int)<((eqL L).length:Int):=by omega
     generalize rdc ts x=d at y0 y1 y2 y3 y4 y5 HPX HTX
     generalize W m m=b at r1 HRC
     clear hrec hrow hxm ht hx hpos
     cases b
     ·have HR2:Hid (firstC ts W (m+1) ((eqL L).drop (m+1))=cycR ts L):=hide (by rw [← HRC.out];simp)
      clear HRC
      go_wp2
      go_roundw
      case rel=>exact ⟨m+1,by omega,by go_num,HRW.out,hbel,HR2.out⟩
      case measure=>simp [intOf];omega
     ·have HR2:Hid (cycR ts L=some (posD ts x)):=hide (by rw [← HRC.out];simp)
      clear HRC
      go_wp2_with fail
      refine (rplace_any _ q g cap ts L _ _ _ _ HRP.out d HTX.out).mono ?_
      rintro e3 w3 ⟨rfl,hb3⟩
      rw [HPX.out]
      go_wp2
      go_ret
      exact ⟨by rw [HR2.out];rfl,hbel.trans (hb3.mono hbel.size)⟩
    ·have em:m=(eqL L).length:=by omega
     subst em
     rw [List.drop_length] at hrec
     have HRC:=hide hrec
     have z2:¬ ((eqL L).length:Int)<((eqL L).length:Int):=by omega
     clear hrec hrow
     go_wp2
     go_ret
     exact ⟨by rw [← HRC.out];rfl,hbel⟩
end Go.Proofs.YtmndgoapkmhglaaGreat
