import Derived.Test.YtmndgoapkmhglaaGreatM20OpC
import Derived.Test.YtmndgoapkmhglaaGreatM23WrC
import Derived.Test.YtmndgoapkmhglaaGreatM42RefX
namespace Go.Proofs.YtmndgoapkmhglaaGreat
open Go.RowKit
attribute [local go_sem ↓] Go.wp_at_zero Go.wp_at_succ
theorem givL_snoc (F:Nat→Nat→Int) (pl:Int) (k:Nat) (junk:Int) (l:List Rt) (r:Rt):givL F pl k junk (l ++ [r])=givL F pl k junk l ++ (if ((r.dst:Nat):Int)=pl then [givF F k junk r] else []):=by
 unfold givL
 rw [List.filter_append,List.map_append]
 congr 1
 by_cases h:((r.dst:Nat):Int)=pl
 ·simp [h]
 ·simp [h]
theorem givL_len (F:Nat→Nat→Int) (pl:Int) (k:Nat) (junk:Int) (l:List Rt):(givL F pl k junk l).length≤l.length:=by
 unfold givL
 rw [List.length_map]
 exact List.length_filter_le _ _
theorem routes_src (ts:List Tk) (L:List Dl):∀ r∈routesR ts L,r.src<(eqL L).length:=by
 have hto:∀ b x q,∀ r∈routeTo ts L b x q,r.src=b:=by
  intro b x q
  induction q with
  | zero=>intro r hr;simp [routeTo] at hr
  | succ q ih=>
   intro r hr
   simp only [routeTo,List.mem_append] at hr
   rcases hr with hr | hr
   ·exact ih r hr
   ·unfold routeAt at hr
    split at hr
    ·simp at hr;subst hr;rfl
    ·simp at hr
 have hfr:∀ l b,∀ r∈routesFrom ts L b l,b≤r.src∧r.src<b+l.length:=by
  intro l
  induction l with
  | nil=>intro b r hr;simp [routesFrom] at hr
  | cons x l ih=>
   intro b r hr
   simp only [routesFrom,List.mem_append] at hr
   rcases hr with hr | hr
   ·have:=hto b x 4 r hr;simp;omega
   ·have:=ih (b+1) r hr;simp;omega
 intro r hr
 have:=hfr (eqL L) 0 r hr
 omega
theorem rt_at3 {w:World}{B:Nat}{gr cr:Nat}{l:List Rt} (h:w.ownsRow B 111 3 (.slice (some ⟨gr,0,none⟩) l.length cr) l.length (rtCells l)) {m:Nat} (hm:m<l.length) :
  w.cell? ⟨gr,m * 3,none⟩=some (.int .i64 (l[m].src:Int))∧w.cell? ⟨gr,m * 3+1,none⟩=some (.int .i64 (l[m].dst:Int))∧w.cell? ⟨gr,m * 3+2,none⟩=some (.bool l[m].late):=by
 have hg:∀ j,j<3→(rtCells l)[m * 3+j]? = (l[m].cells)[j]?:=fun j hj=>by
  unfold rtCells
  exact flat_get Rt.cells 3 rt_len l m j hm hj
 refine ⟨?_,?_,?_⟩
 ·rw [show m * 3=m * 3+0 by omega,h.cellAt (m * 3+0) (by omega),hg 0 (by omega)];rfl
 ·rw [h.cellAt (m * 3+1) (by omega),hg 1 (by omega)];rfl
 ·rw [h.cellAt (m * 3+2) (by omega),hg 2 (by omega)];rfl
theorem iCells_snocG (l:List Int) (x:Int):iCells (l ++ [x])=iCells l ++ [.int .i64 x]:=by simp [iCells]
set_option maxHeartbeats 2000000 in
set_option maxRecDepth 100000 in
theorem rgiven_any (w:World) (q g cap:Nat) (ts:List Tk) (L:List Dl) (vE vA vI vQ:Value) (h:RProg w q g cap ts L vE vA vI vQ) (ho:ROk ts L) (aR:Option Addr) (gR cR N:Nat) (R:Nat→Nat) (F:Nat→Nat→Int)
  (hm:MatI w gR (eqL L).length N R F) (ha:0<(eqL L).length→aR=some ⟨gR,0,none⟩) (pl:Int) (k:Nat) (junk:Int) (hk:k<N) (hN:N≤1000000) :
  Calls Tryz.prog 32 #[.pointer (some ⟨q,0,none⟩),.slice aR (eqL L).length cR,.int .i64 pl,.int .i64 (k:Int),.int .i64 junk] w fun e w'=>∃ v,e = .returned v∧w'.ownsRow w.heap.size 3 1 v (givenR ts L F pl k junk).length (iCells (givenR ts L F pl k junk))∧Below w.heap.size w w':=by
 obtain ⟨i0,hi0,hz0,hz1,hz2⟩:=info_parts Tryz.infoInt
 have HRT:=hide (rroutes_any w q g cap ts L vE vA vI vQ h ho)
 have HM:=hide hm
 have HA:=hide ha
 have HSRC:=hide (routes_src ts L)
 clear h ho hm ha
 go_enter Tryz.func32,Tryz.ntmps32
 go_wp2_with fail
 refine HRT.out.mono ?_
 rintro e w1 ⟨vr,rfl,hown1,hlen,hb1⟩
 obtain ⟨rs,hrs⟩:∃ rs,rs=routesR ts L:=⟨_,rfl⟩
 rw [← hrs] at hown1 hlen HSRC
 obtain ⟨ar,cr,rfl,hsh⟩:=own_shape hown1
 have HRS:Hid (givL F pl k junk rs=givenR ts L F pl k junk):=hide (by rw [hrs];rfl)
 have HO1:=hide hown1
 have HSH:=hide hsh
 have HB1:=hide hb1
 clear hown1 hsh hb1 HRT hrs
 go_wp2
 go_loopw [11,13] (fun v vi wr=>∃ m:Nat,m≤rs.length∧vi = .int .i64 m∧Below w1.heap.size w1 wr∧wr.ownsRow w1.heap.size 3 1 v (givL F pl k junk (rs.take m)).length (iCells (givL F pl k junk (rs.take m)))) (fun _ vi _=>rs.length - (intOf vi).toNat)
 case atStart=>exact ⟨0,Nat.zero_le _,rfl,Below.refl _ _,World.ownsRow_nil _ _ _ _⟩
 case round=>
  obtain ⟨m,hml,rfl,hbel,hown⟩:=hrel
  by_cases hlt:m<rs.length
  ·obtain ⟨gr,rfl,_,hgr⟩:=HSH.out (by omega)
   have hO:=own_same HO1.out (fun b e=>hbel.block b (HO1.out.lt b e).2)
   obtain ⟨x0,x1,x2⟩:=rt_at3 hO hlt
   have hsn:=givL_snoc F pl k junk (rs.take m) (rs[m]'hlt)
   rw [← List.take_succ_eq_append_getElem hlt] at hsn
   have hsrc:=HSRC.out _ (List.getElem_mem hlt)
   have hgl:=givL_len F pl k junk (rs.take m)
   rw [List.length_take] at hgl
   obtain ⟨r,hr⟩:∃ r,r=rs[m]'hlt:=⟨_,rfl⟩
   rw [← hr] at x0 x1 x2 hsn hsrc
   have j1:(0:Int)≤(m:Int):=by omega
   have j2:(m:Int)<(rs.length:Int):=by omega
   have hbs:=hbel.size
   have hbw:Below w.heap.size w wr:=HB1.out.trans (hbel.mono HB1.out.size)
   have HSN:=hide hsn
   clear hr hO hsn
   generalize givL F pl k junk (rs.take m)=acc at *
   by_cases hto:(r.dst:Int)=pl
   ·have q0:((r.dst:Int) != pl)=false:=by rw [hto];simp
    have HN:Hid (givL F pl k junk (rs.take (m+1))=acc ++ [givF F k junk r]):=hide (by rw [HSN.out,if_pos hto])
    obtain rfl:=HA.out (by omega)
    have hMb:=HM.out.below hbw
    have o1:=hMb.outer r.src hsrc
    have o2:=hMb.cell hsrc hk
    have s1:(0:Int)≤(r.src:Int):=by omega
    have s2:(r.src:Int)<((eqL L).length:Int):=by omega
    have k1:(0:Int)≤(k:Int):=by omega
    have k2:(k:Int)<(N:Int):=by omega
    have HOW:=hide hown
    have HBW:=hide hbel
    clear hto
    by_cases hl:r.late=true
    ·by_cases hk0:0<k
     ·have HV:Hid (givF F k junk r=F r.src (k - 1)):=hide (by unfold givF;rw [if_neg (by rw [hl];decide),if_pos hk0])
      have o3:=hMb.cell hsrc (show k - 1<N by omega)
      have k3:(k:Int) > 0:=by omega
      have k4:(k:Int) - 1=((k - 1:Nat):Int):=by omega
      have k5:(0:Int)≤((k - 1:Nat):Int):=by omega
      have k6:((k - 1:Nat):Int)<(N:Int):=by omega
      have k7:wrap64 ((k - 1:Nat):Int)=((k - 1:Nat):Int):=by unfold wrap64;omega
      generalize k - 1=kk at *
      clear hMb hown
      have hod:=HOW.out
      go_wp2_with (at_builtin;refine wpList_append_lies _ rfl _ _ _ rfl w1.heap.size 3 i0 _ 1 8 Tryz.underlying34 hi0 hz0 hz1 hz2 rfl (by omega) _ acc.length (iCells acc) rfl (hod.alloc _) ⟨wr.heap.size,0,none⟩ 1 1 [.int .i64 (F r.src kk)] rfl rfl (World.news_of_block (cs:=#[.int .i64 (F r.src kk)]) (t:=3) (fr:=(0,0)) (heap_alloc_new wr _)) (by simp [Value.oneCell']) (by omega) (by unfold maxLen;omega) (by omega) (by simp;omega) (wr.heap.size+1) (by simp) ?_;intro g3 cap3 w3 hown3 hgrow hat hlt3)
      go_roundw
      case rel=>
       refine ⟨m+1,by omega,by go_num,?_,?_⟩
       ·exact (HBW.out.alloc hbs _).grown hgrow (by simp;omega) (fun j hj=>ownBlock_ge hod j hj)
       ·rw [HN.out,HV.out,List.length_append,iCells_snocG];exact hown3
      case measure=>simp [intOf];omega
     ·have HV:Hid (givF F k junk r=junk):=hide (by unfold givF;rw [if_neg (by rw [hl];decide),if_neg hk0])
      have k3:¬ (k:Int) > 0:=by omega
      clear hMb hown
      have hod:=HOW.out
      go_wp2_with (at_builtin;refine wpList_append_lies _ rfl _ _ _ rfl w1.heap.size 3 i0 _ 1 8 Tryz.underlying34 hi0 hz0 hz1 hz2 rfl (by omega) _ acc.length (iCells acc) rfl (hod.alloc _) ⟨wr.heap.size,0,none⟩ 1 1 [.int .i64 junk] rfl rfl (World.news_of_block (cs:=#[.int .i64 junk]) (t:=3) (fr:=(0,0)) (heap_alloc_new wr _)) (by simp [Value.oneCell']) (by omega) (by unfold maxLen;omega) (by omega) (by simp;omega) (wr.heap.size+1) (by simp) ?_;intro g3 cap3 w3 hown3 hgrow hat hlt3)
      go_roundw
      case rel=>
       refine ⟨m+1,by omega,by go_num,?_,?_⟩
       ·exact (HBW.out.alloc hbs _).grown hgrow (by simp;omega) (fun j hj=>ownBlock_ge hod j hj)
       ·rw [HN.out,HV.out,List.length_append,iCells_snocG];exact hown3
      case measure=>simp [intOf];omega
    ·have hl':r.late=false:=by simpa using hl
     have HV:Hid (givF F k junk r=F r.src k):=hide (by unfold givF;rw [if_pos hl'])
     clear hl hMb hown
     have hod:=HOW.out
     go_wp2_with (at_builtin;refine wpList_append_lies _ rfl _ _ _ rfl w1.heap.size 3 i0 _ 1 8 Tryz.underlying34 hi0 hz0 hz1 hz2 rfl (by omega) _ acc.length (iCells acc) rfl (hod.alloc _) ⟨wr.heap.size,0,none⟩ 1 1 [.int .i64 (F r.src k)] rfl rfl (World.news_of_block (cs:=#[.int .i64 (F r.src k)]) (t:=3) (fr:=(0,0)) (heap_alloc_new wr _)) (by simp [Value.oneCell']) (by omega) (by unfold maxLen;omega) (by omega) (by simp;omega) (wr.heap.size+1) (by simp) ?_;intro g3 cap3 w3 hown3 hgrow hat hlt3)
     go_roundw
     case rel=>
      refine ⟨m+1,by omega,by go_num,?_,?_⟩
      ·exact (HBW.out.alloc hbs _).grown hgrow (by simp;omega) (fun j hj=>ownBlock_ge hod j hj)
      ·rw [HN.out,HV.out,List.length_append,iCells_snocG];exact hown3
     case measure=>simp [intOf];omega
   ·have q0:((r.dst:Int) != pl)=true:=by rw [bne_iff_ne];exact hto
    have HN:Hid (givL F pl k junk (rs.take (m+1))=acc):=hide (by rw [HSN.out,if_neg hto,List.append_nil])
    have HOW:=hide hown
    clear hto hown
    go_wp2
    go_roundw
    case rel=>exact ⟨m+1,by omega,by go_num,hbel,by rw [HN.out];exact HOW.out⟩
    case measure=>simp [intOf];omega
  ·have ek:rs.take m=rs:=List.take_of_length_le (by omega)
   rw [ek,HRS.out] at hown
   have HOW:=hide hown
   clear hown ek
   go_wp2
   go_ret
   have hs:=HB1.out.size
   exact ⟨_,rfl,own_weak HOW.out hs,HB1.out.trans (hbel.mono hs)⟩
end Go.Proofs.YtmndgoapkmhglaaGreat
