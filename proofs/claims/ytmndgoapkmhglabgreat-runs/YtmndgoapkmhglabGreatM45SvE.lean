import Derived.Test.YtmndgoapkmhglabGreatM14JudJ
import Derived.Test.YtmndgoapkmhglabGreatM31LawP
import Derived.Test.YtmndgoapkmhglabGreatM43RuP
namespace Go.Proofs.YtmndgoapkmhglabGreat
open Go.RowKit
attribute [local go_sem ↓] Go.wp_at_zero Go.wp_at_succ
theorem Tryz.infoIntO:(Tryz.prog.info? 3).map (fun i=>(i.zero,i.size,i.bytes))=some (some (.int .i64 0),1,8):=by kernel_rfl
def tCells (T:List Nat):List Value:=T.map fun (t:Nat)=>Value.int .i64 (t:Int)
theorem tCells_snoc (T:List Nat) (t:Nat):tCells (T ++ [t])=tCells T ++ [.int .i64 (t:Int)]:=by simp [tCells]
theorem own_eqb {w w':World}{B e size n:Nat}{v:Value}{xs:List Value} (h:w.ownsRow B e size v n xs) (hk:∀ b,v.ownBlock=some b→w'.heap[b]? = w.heap[b]?):w'.ownsRow B e size v n xs:=by
 refine ⟨h.1,?_⟩
 rcases h.2 with h0 | ⟨g,cap,cur,rfl,hb,hg,h1⟩
 ·exact .inl h0
 ·exact .inr ⟨g,cap,cur,rfl,hb,(hk g rfl).trans hg,h1⟩
theorem own_wkO {w:World}{B B' e size n:Nat}{v:Value}{xs:List Value} (h:w.ownsRow B e size v n xs) (hb:B'≤B):w.ownsRow B' e size v n xs:=by
 refine ⟨h.1,?_⟩
 rcases h.2 with h0 | ⟨g,cap,cur,hv,h1,hr⟩
 ·exact .inl h0
 ·exact .inr ⟨g,cap,cur,hv,Nat.le_trans hb h1,hr⟩
structure OrdS (w wr:World) (dq:Nat) (ds:List Dc) (R:Nat→Nat) (H:Mx) (T:List Nat) (v:Value):Prop where
 bel:Below w.heap.size w wr
 mat:Mat wr w.heap.size ds.length R H
 done:wr.rowIs dq 4 ds.length (fun j=>.bool (decide (j∈T)))
 own:wr.ownsRow (dq+1) 3 1 v T.length (tCells T)
 eqn:∀ t∈T,∃ d,ds[t]? = some d∧d.kind≠0
 topo:∀ (j t:Nat),T[j]? = some t→∀ b,H t b=true→b∈T.take j
 rlt:∀ i,i<ds.length→R i<dq
 ge:w.heap.size<dq
theorem OrdS.alloc {w wr:World}{dq:Nat}{ds:List Dc}{R:Nat→Nat}{H:Mx}{T:List Nat}{v:Value} (h:OrdS w wr dq ds R H T v) (o:Obj):OrdS w (wr.alloc o) dq ds R H T v:=
 ⟨h.bel.alloc h.bel.size _,h.mat.alloc o,h.done.alloc o,h.own.alloc o,h.eqn,h.topo,h.rlt,h.ge⟩
theorem OrdS.push {w wr w3 W:World}{dq:Nat}{ds:List Dc}{R:Nat→Nat}{H:Mx}{T:List Nat}{v v':Value} (h:OrdS w wr dq ds R H T v) {i:Nat}{d:Dc} (hd:ds[i]? = some d) (hk:d.kind≠0) (hb:∀ b,H i b=true→b∈T)
  (hW:∀ b,b<wr.heap.size→b≠dq→W.heap[b]? = wr.heap[b]?) (hWd:W.rowIs dq 4 ds.length (fun j=>if j=i then .bool true else .bool (decide (j∈T)))) (hbW:Below w.heap.size w w3)
  (hg:∀ b,b<W.heap.size→v.ownBlock≠some b→w3.heap[b]? = W.heap[b]?) (hWs:wr.heap.size≤W.heap.size) (hown:w3.ownsRow (dq+1) 3 1 v' (T.length+1) (tCells T ++ [.int .i64 (i:Int)])):OrdS w w3 dq ds R H (T ++ [i]) v':=by
 have hnb:∀ b,b≤dq→v.ownBlock≠some b:=fun b hb e=>by have:=(h.own.lt _ e).1;omega
 have hdl:dq<wr.heap.size:=World.rowIs.lt h.done
 have hkeep:∀ b,b<dq→w3.heap[b]? = wr.heap[b]?:=fun b hb=>(hg b (by omega) (hnb b (by omega))).trans (hW b (by omega) (by omega))
 refine ⟨hbW,h.mat.keep (hkeep _ h.ge) (fun i hi=>hkeep _ (h.rlt i hi)),?_,?_,?_,?_,h.rlt,h.ge⟩
 ·refine (hWd.of_block (hg dq (by omega) (hnb dq (Nat.le_refl _)))).congr (fun j _=>?_)
  by_cases e:j=i
  ·subst e;simp
  ·simp [e]
 ·rw [tCells_snoc,List.length_append];exact hown
 ·intro t ht
  rcases List.mem_append.1 ht with ht | ht
  ·exact h.eqn t ht
  ·rw [List.mem_singleton] at ht;subst ht;exact ⟨d,hd,hk⟩
 ·intro j t ht b hbt
  by_cases hj:j<T.length
  ·rw [List.getElem?_append_left hj] at ht
   rw [List.take_append_of_le_length (by omega)]
   exact h.topo j t ht b hbt
  ·rw [List.getElem?_append_right (by omega)] at ht
   have hj0:j - T.length=0:=by
    have:=(List.getElem?_eq_some_iff.1 ht).1
    simp at this;omega
   rw [hj0] at ht
   have e:i=t:=by simpa using ht
   subst e
   have ej:j=T.length:=by omega
   subst ej
   rw [List.take_left]
   exact hb b hbt
set_option maxHeartbeats 2000000 in
set_option maxRecDepth 100000 in
theorem order_any (w:World) (q:Nat) (ds:List Dc) (ns:List Nd) (vd vn:Value) (h:ProgAt w q ds ns vd vn) (hwf:ProgWf ds ns) (hbd:∀ n∈ns,n.kind=2→0≤n.decl) (hn:ds.length≤16) (rank:Nat→Nat) (hR:Ranked ds (markAll ds ns 0 ds noM) rank) :
  Calls Tryz.prog 61 #[.pointer (some ⟨q,0,none⟩)] w fun e w'=>∃ v T,e = .returned v∧OrdOk ds (markAll ds ns 0 ds noM) T∧w'.ownsRow w.heap.size 3 1 v T.length (tCells T)∧Below w.heap.size w w':=by
 have c0:=h.c0
 obtain ⟨av,cap,rfl,hsh⟩:=own_shape h.decls
 obtain ⟨i0,hi0,hz0,hz1,hz2⟩:=info_parts Tryz.infoIntO
 have hm2:=run_make_row' (P:=Tryz.prog) 110 4 (.bool false) 1 Tryz.underlying110 Tryz.infoBool rfl .i64 .i64 ds.length (by omega) (by omega)
 have HSH:=hide hsh
 have HP:=hide h
 have HR:=hide hR
 have HH:=hide (hangs_any w q ds ns _ _ h hwf hbd)
 clear h hsh hwf hbd hR
 go_enter Tryz.func61,Tryz.ntmps61
 go_wp2_with fail
 refine HH.out.mono ?_
 rintro e w1 ⟨rfl,⟨R,hM1,hR1⟩,hb1,hs1⟩
 have c0':∀ o,(w1.alloc o).cell? ⟨q,0,none⟩=some (.slice av ds.length cap):=fun o=>(HP.out.below (hb1.alloc hb1.size o)).c0
 have c0'':=(HP.out.below hb1).c0
 obtain ⟨H,hHE⟩:∃ H,H=markAll ds ns 0 ds noM:=⟨_,rfl⟩
 rw [← hHE] at hM1 HR
 have HHE:=hide hHE
 clear hHE
 have HS:Hid (∀ o,o = .cells (madeCells #[.bool false] ds.length) 4→OrdS w (w1.alloc o) w1.heap.size ds R H [] (.slice none 0 0)):=hide (fun o ho=>by
  subst ho
  exact ⟨hb1.alloc hb1.size _,hM1.alloc _,(World.rowIs_made w1 (.bool false) ds.length 4).congr (fun j _=>by simp),World.ownsRow_nil _ _ _ _,fun t ht=>by simp at ht,fun j t ht=>by simp at ht,fun i hi=>World.rowIs.lt (hM1.rows i hi),hs1⟩)
 have HGE:=hide hs1
 clear hM1 hR1 HH c0 hb1 hs1
 go_wp2
 go_loopw [5,21] (fun v vr wr=>∃ (r:Nat) (T:List Nat),r≤ds.length∧vr = .int .i64 r∧OrdS w wr w1.heap.size ds R H T v∧T.length≤r * 16∧(∀ (a:Nat) (d:Dc),ds[a]? = some d→d.kind≠0→rank a<r→a∈T)) (fun _ vr _=>ds.length - (intOf vr).toNat)
 case atStart=>exact ⟨0,[],Nat.zero_le _,rfl,HS.out _ rfl,by simp,fun a d _ _ h=>by omega⟩
 case round=>
  clear HS c0' c0''
  obtain ⟨r,T,hr,rfl,hS,hlen,hall⟩:=hrel
  by_cases hrl:r<ds.length
  ·have p0:=(HP.out.below hS.bel).c0
   have j1:(r:Int)<(ds.length:Int):=by omega
   have HSS:=hide hS
   have HALL:=hide hall
   have hl0:T.length≤r * 16+0:=by omega
   clear hS hall
   go_wp2
   go_loopw [5,28] (fun v vi wr=>∃ (i:Nat) (T:List Nat),i≤ds.length∧vi = .int .i64 i∧OrdS w wr w1.heap.size ds R H T v∧T.length≤r * 16+i∧(∀ (a:Nat) (d:Dc),ds[a]? = some d→d.kind≠0→rank a<r→a∈T)∧(∀ (a:Nat) (d:Dc),ds[a]? = some d→d.kind≠0→a<i→rank a≤r→a∈T)) (fun _ vi _=>ds.length - (intOf vi).toNat)
   case atStart=>exact ⟨0,T,Nat.zero_le _,rfl,HSS.out,hl0,HALL.out,fun a d _ _ h=>by omega⟩
   case round=>
    clear HSS HALL p0 hl0 hlen
    obtain ⟨i,T,hi,rfl,hS,hlen,hall,hrow⟩:=hrel
    by_cases hil:i<ds.length
    ·obtain ⟨g,rfl,_,hg2⟩:=HSH.out (by omega)
     obtain ⟨a,ha⟩:∃ a,a=ds[i]'hil:=⟨_,rfl⟩
     obtain ⟨x0,x1,x2,x3,x4,x5,x6⟩:=dc_later HP.out.decls hS.bel hg2 hil a ha
     have had:ds[i]? = some a:=by rw [List.getElem?_eq_getElem hil,ha]
     have j3:(0:Int)≤(i:Int):=by omega
     have j4:(i:Int)<(ds.length:Int):=by omega
     have o1:∀ o,(wr.alloc o).cell? ⟨w1.heap.size,i,none⟩=some (.bool (decide (i∈T))):=fun o=>(hS.alloc o).done.cell hil
     have f1:∀ o,(wr.alloc o).frozen? ⟨w1.heap.size,i,none⟩=false:=fun o=>(hS.alloc o).done.frozen i
     have o2:∀ o,(wr.alloc o).cell? ⟨w.heap.size,i,none⟩=some (.slice (some ⟨R i,0,none⟩) ds.length ds.length):=fun o=>(hS.alloc o).mat.outer i hil
     have HRD:=hide (fun o=>ready_any (wr.alloc o) (R i) w1.heap.size ds.length ds.length ds.length (H i) (fun j=>decide (j∈T)) ((hS.alloc o).mat.rows i hil) (hS.alloc o).done (by omega))
     have HSS:=hide hS
     have HALL:=hide hall
     have HROW:=hide hrow
     have HAD:=hide had
     clear hS hall hrow ha had
     by_cases hk0:a.kind=0
     ·have q0:((a.kind:Int) != 0)=false:=by rw [hk0];rfl
      have HK:=hide hk0
      clear hk0
      go_wp2
      go_roundw
      case rel=>
       refine ⟨i+1,T,by omega,by go_num,HSS.out.alloc _,by omega,HALL.out,fun b d hd hkb hlt hrk=>?_⟩
       rcases Nat.lt_succ_iff_lt_or_eq.1 hlt with h' | rfl
       ·exact HROW.out b d hd hkb h' hrk
       ·rw [HAD.out] at hd;cases hd;exact absurd HK.out hkb
      case measure=>simp [intOf];omega
     ·have q0:((a.kind:Int) != 0)=true:=by rw [bne_iff_ne];omega
      have HK:=hide hk0
      clear hk0
      by_cases hmem:i∈T
      ·have qm:decide (i∈T)=true:=by simpa using hmem
       rw [qm] at o1
       have HMEM:=hide hmem
       clear hmem qm
       go_wp2
       go_roundw
       case rel=>
        refine ⟨i+1,T,by omega,by go_num,HSS.out.alloc _,by omega,HALL.out,fun b d hd hkb hlt hrk=>?_⟩
        rcases Nat.lt_succ_iff_lt_or_eq.1 hlt with h' | rfl
        ·exact HROW.out b d hd hkb h' hrk
        ·exact HMEM.out
       case measure=>simp [intOf];omega
      ·have qm:decide (i∈T)=false:=by simpa using hmem
       rw [qm] at o1
       clear qm
       by_cases hrd:∀ j,j<ds.length→H i j=true→decide (j∈T)=true
       ·have qr:decide (∀ j,j<ds.length→H i j=true→decide (j∈T)=true)=true:=by rw [decide_eq_true_iff];exact hrd
        have HRY:=hide hrd
        rw [qr] at HRD
        have hTl:T.length≤300:=by
         have:r * 16≤16 * 16:=Nat.mul_le_mul_right _ (by omega)
         omega
        have hown:=HSS.out.own
        have hdql:w1.heap.size<wr.heap.size:=World.rowIs.lt HSS.out.done
        have hownp:∀ o o',(((wr.setCell ⟨w1.heap.size,i,none⟩ (.bool true)).alloc o).alloc o').ownsRow (w1.heap.size+1) 3 1 u5 T.length (tCells T):=fun o o'=>((own_eqb hown (fun b hb=>heap_setCell_other wr ⟨w1.heap.size,i,none⟩ b _ (by have:=(hown.lt b hb).1;show b≠w1.heap.size;omega))).alloc o).alloc o'
        have hWd:∀ o o',(((wr.setCell ⟨w1.heap.size,i,none⟩ (.bool true)).alloc o).alloc o').rowIs w1.heap.size 4 ds.length (fun j=>if j=i then .bool true else .bool (decide (j∈T))):=fun o o'=>(((HSS.out.done.set i (.bool true)).alloc o).alloc o').congr (fun j _=>by rfl)
        have HWD:=hide hWd
        clear hrd qr hWd hmem
        go_wp2_with fail
        refine (HRD.out _).mono ?_
        rintro e w2 ⟨rfl,rfl⟩
        go_wp2_with (at_builtin;refine wpList_append_lies _ rfl _ _ _ rfl (w1.heap.size+1) 3 i0 _ 1 8 Tryz.underlying36 hi0 hz0 hz1 hz2 rfl (by omega) _ T.length (tCells T) rfl (hownp _ _) ⟨wr.heap.size+1,0,none⟩ 1 1 [.int .i64 (i:Int)] rfl rfl (World.news_of_block (cs:=#[.int .i64 (i:Int)]) (t:=3) (fr:=(0,0)) (by have:=heap_alloc_new ((wr.setCell ⟨w1.heap.size,i,none⟩ (.bool true)).alloc (.cells #[.int .i64 (a.kind:Int),.int .i64 (a.number:Int),.string a.name,.int .i64 (a.pos:Int),.int .i64 (a.place:Int),.int .i64 (a.root:Int),.int .i64 (a.fin:Int)] 90)) (.cells #[.int .i64 (i:Int)] 3);simpa using this)) (by simp [Value.oneCell']) (by omega) (by unfold maxLen;omega) (by omega) (by simp;omega) (wr.heap.size+2) (by simp) ?_;intro gg cap2 w3 hown3 hgrow hat hlt3)
        go_roundw
        case rel=>
         have hbs:=HSS.out.bel.size
         refine ⟨i+1,T ++ [i],by omega,by go_num,?_,by rw [List.length_append];simp;omega,fun b d hd hkb hrk=>List.mem_append_left _ (HALL.out b d hd hkb hrk),fun b d hd hkb hlt hrk=>?_⟩
         ·refine HSS.out.push HAD.out HK.out (fun b hb=>?_) (fun b hb hne=>?_) (HWD.out _ _) ?_ (fun b hb hne=>hgrow.block b hb (Ne.symm hne)) (by simp;omega) hown3
          ·obtain ⟨_,d,hd,_⟩:=HR.out.less i b hb
           have:=HRY.out b (List.getElem?_eq_some_iff.1 hd).1 hb
           simpa using this
          ·rw [Below.heap_alloc _ _ _ (by simp;omega),Below.heap_alloc _ _ _ (by simp;omega)]
           exact heap_setCell_other wr ⟨w1.heap.size,i,none⟩ b _ hne
          ·exact ((((HSS.out.bel.setCell (by show w.heap.size≤w1.heap.size;have:=HGE.out;omega) _).alloc (by simp;omega) _).alloc (by simp;omega) _)).grown hgrow (by simp;omega) (fun j hj=>by have:=ownBlock_ge hown j hj;have:=HGE.out;omega)
         ·rcases Nat.lt_succ_iff_lt_or_eq.1 hlt with h' | rfl
          ·exact List.mem_append_left _ (HROW.out b d hd hkb h' hrk)
          ·simp
        case measure=>simp [intOf];omega
       ·have qr:decide (∀ j,j<ds.length→H i j=true→decide (j∈T)=true)=false:=by rw [decide_eq_false_iff_not];exact hrd
        rw [qr] at HRD
        have HRN:=hide hrd
        clear qr hrd hmem
        go_wp2_with fail
        refine (HRD.out _).mono ?_
        rintro e w2 ⟨rfl,rfl⟩
        go_wp2
        go_roundw
        case rel=>
         refine ⟨i+1,T,by omega,by go_num,HSS.out.alloc _,by omega,HALL.out,fun b d hd hkb hlt hrk=>?_⟩
         rcases Nat.lt_succ_iff_lt_or_eq.1 hlt with h' | rfl
         ·exact HROW.out b d hd hkb h' hrk
         ·exfalso
          refine HRN.out (fun j hj hh=>?_)
          obtain ⟨h1,e,he,hke⟩:=HR.out.less b j hh
          simpa using HALL.out j e he hke (by omega)
        case measure=>simp [intOf];omega
    ·have ei:i=ds.length:=by omega
     subst ei
     have HSS:=hide hS
     have HROW:=hide hrow
     clear hS hrow hall
     go_wp2
     go_roundw
     case rel=>
      refine ⟨r+1,T,by omega,by go_num,HSS.out,by omega,fun b d hd hkb hrk=>HROW.out b d hd hkb (List.getElem?_eq_some_iff.1 hd).1 (by omega)⟩
     case measure=>simp [intOf];omega
  ·have er:r=ds.length:=by omega
   subst er
   have HSS:=hide hS
   have HALL:=hide hall
   clear hS hall
   go_wp2
   go_ret
   rw [← HHE.out]
   refine ⟨_,T,rfl,⟨HSS.out.eqn,HSS.out.topo,fun b d hd hkb=>HALL.out b d hd hkb (HR.out.lt b d hd hkb),by omega⟩,own_wkO HSS.out.own (by have:=HGE.out;omega),HSS.out.bel⟩
theorem tCells_i (T:List Nat):tCells T=iCells (T.map fun (t:Nat)=>(t:Int)):=by simp [tCells,iCells]
structure SS (w wr:World) (ds:List Dc) (vE vT:Value) (T:List Nat) (rg n:Nat) (R:Nat→Nat) (F:Nat→Nat→Int):Prop where
 bel:Below w.heap.size w wr
 eqs:wr.ownsRow w.heap.size 90 7 vE (eqsF ds).length (dcCells (eqsF ds))
 ord:wr.ownsRow w.heap.size 3 1 vT T.length (tCells T)
 mat:MatI wr rg (eqsF ds).length n R F
 rgl:rg<wr.heap.size
 ge:w.heap.size≤rg∧∀ i,i<(eqsF ds).length→w.heap.size≤R i
 apart:∀ i,i<(eqsF ds).length→vE.ownBlock≠some (R i)∧vT.ownBlock≠some (R i)
theorem SS.below {w wr w':World}{ds:List Dc}{vE vT:Value}{T:List Nat}{rg n:Nat}{R:Nat→Nat}{F:Nat→Nat→Int} (h:SS w wr ds vE vT T rg n R F) (hb:Below wr.heap.size wr w'):SS w w' ds vE vT T rg n R F:=
 ⟨h.bel.trans (hb.mono h.bel.size),own_eqb h.eqs (fun b e=>hb.block b (h.eqs.lt b e).2),own_eqb h.ord (fun b e=>hb.block b (h.ord.lt b e).2),h.mat.below hb,Nat.lt_of_lt_of_le h.rgl hb.size,h.ge,h.apart⟩
theorem SS.alloc {w wr:World}{ds:List Dc}{vE vT:Value}{T:List Nat}{rg n:Nat}{R:Nat→Nat}{F:Nat→Nat→Int} (h:SS w wr ds vE vT T rg n R F) (o:Obj):SS w (wr.alloc o) ds vE vT T rg n R F:=h.below ((Below.refl _ _).alloc (Nat.le_refl _) o)
theorem SS.drew {w wr:World}{ds:List Dc}{vE vT:Value}{T:List Nat}{rg n:Nat}{R:Nat→Nat}{F:Nat→Nat→Int} (h:SS w wr ds vE vT T rg n R F):SS w wr.drew ds vE vT T rg n R F:=h.below ((Below.refl _ _).drew)
theorem SS.set {w wr:World}{ds:List Dc}{vE vT:Value}{T:List Nat}{rg n:Nat}{R:Nat→Nat}{F:Nat→Nat→Int} (h:SS w wr ds vE vT T rg n R F) {i:Nat} (hi:i<(eqsF ds).length) (k:Nat) (v:Int):SS w (wr.setCell ⟨R i,k,none⟩ (.int .i64 v)) ds vE vT T rg n R (fun a b=>if a=i∧b=k then v else F a b):=
 ⟨h.bel.setCell (h.ge.2 i hi) _,own_eqb h.eqs (fun b e=>heap_setCell_other wr ⟨R i,k,none⟩ b _ (fun e2=>(h.apart i hi).1 (by rw [e,e2]))),own_eqb h.ord (fun b e=>heap_setCell_other wr ⟨R i,k,none⟩ b _ (fun e2=>(h.apart i hi).2 (by rw [e,e2]))),h.mat.set hi k v,by simpa using h.rgl,h.ge,h.apart⟩
set_option maxHeartbeats 4000000 in
set_option maxRecDepth 100000 in
theorem sof_any (w:World) (q:Nat) (ds:List Dc) (ns:List Nd) (vd vn vX:Value) (ins:List (List Int)) (NV:Nat→Nat→Int) (h:ProgAt w q ds ns vd vn) (hwf:ProgWf ds ns) (hX:LsAt w vX ins) (hM:Meant ds ns ins NV) (hn16:ds.length≤16) (rank:Nat→Nat) (hR:Ranked ds (markAll ds ns 0 ds noM) rank)
  (n:Nat) (hn:n≤200) (S:Nat→Nat→Int) (hS:∀ (j:Nat) (d:Dc) (k:Nat),(eqsF ds)[j]? = some d→NV k d.root=S j k) :
  Calls Tryz.prog 32 #[.pointer (some ⟨q,0,none⟩),vX,.int .i64 (n:Int)] w fun e w'=>∃ v,e = .returned v∧Outs w.heap.size w' v (eqsF ds).length n S∧Below w.heap.size w w':=by
 have hel:(eqsF ds).length≤16:=Nat.le_trans (List.length_filter_le _ _) hn16
 have hnl:=hwf.nl
 have hm1:=run_make_row' (P:=Tryz.prog) 22 36 (.slice none 0 0) 24 Tryz.underlying22 Tryz.infoIntsE rfl .i64 .i64 (eqsF ds).length (by omega) (by omega)
 have hm2:=run_make_row' (P:=Tryz.prog) 36 3 (.int .i64 0) 8 Tryz.underlying36 Tryz.infoIntO rfl .i64 .i64 n (by omega) (by omega)
 have hm3:=run_make_row' (P:=Tryz.prog) 36 3 (.int .i64 0) 8 Tryz.underlying36 Tryz.infoIntO rfl .i64 .i64 ns.length (by omega) (by omega)
 have HE:=hide (equations_any w q ds ns vd vn h (by omega))
 have HOR:=hide (fun W hW=>order_any W q ds ns vd vn hW hwf (fun m hm hk=>(hM.decl m hm hk).1) hn16 rank hR)
 have HP:=hide h
 have HX:=hide hX
 have HWF:=hide hwf
 have HM:=hide hM
 have HS:=hide hS
 clear h hX hM hS hR hwf
 go_enter Tryz.func32,Tryz.ntmps32
 go_wp2_with fail
 refine HE.out.mono ?_
 rintro e w1 ⟨vE,rfl,hE1,hb1⟩
 obtain ⟨aE,cE,rfl,hshE⟩:=own_shape hE1
 have HR0:=hide (World.rowIs_made w1 (.slice none 0 0) (eqsF ds).length 36)
 have HE1:=hide hE1
 have HB1:=hide hb1
 clear hE1 hb1 HE
 go_wp2
 go_loopw [23] (fun vi wr=>∃ i:Nat,i≤(eqsF ds).length∧vi = .int .i64 i∧wr.heap.size=w1.heap.size+1+i∧Below w1.heap.size w1 wr∧
   wr.rowIs w1.heap.size 36 (eqsF ds).length (fun j=>if j<i then .slice (some ⟨w1.heap.size+1+j,0,none⟩) n n else .slice none 0 0)∧(∀ j,j<i→wr.rowIs (w1.heap.size+1+j) 3 n (fun _=>.int .i64 0))) (fun vi _=>(eqsF ds).length - (intOf vi).toNat)
 case atStart=>exact ⟨0,Nat.zero_le _,rfl,by simp,(Below.refl _ _).alloc (Nat.le_refl _) _,HR0.out.congr (fun j _=>by simp),fun j hj=>by omega⟩
 case round=>
  clear HR0
  obtain ⟨i,hi,rfl,hsz,hbel,hout,hrows⟩:=hrel
  by_cases hlt:i<(eqsF ds).length
  ·have j1:(0:Int)≤(i:Int):=by omega
   have j2:(i:Int)<((eqsF ds).length:Int):=by omega
   have lg:w1.heap.size<wr.heap.size:=by omega
   have x0:∀ o,(wr.alloc o).cell? ⟨w1.heap.size,i,none⟩=some (.slice none 0 0):=fun o=>(World.cell?_alloc_past _ _ _ lg).trans ((hout.cell hlt).trans (by simp))
   have f0:∀ o,(wr.alloc o).frozen? ⟨w1.heap.size,i,none⟩=false:=fun o=>(World.frozen?_alloc_past _ _ _ lg).trans (hout.frozen i)
   have HSZ:=hide hsz
   have HOUT:=hide hout
   have HROWS:=hide hrows
   clear hsz hout hrows
   go_wp2
   go_roundw
   case rel=>
    have e1:wr.heap.size=w1.heap.size+1+i:=HSZ.out
    refine ⟨i+1,by omega,by go_num,by simp;omega,?_,?_,?_⟩
    ·first | exact (hbel.alloc (by omega) _).setCell (Nat.le_refl _) _ | exact (hbel.setCell (Nat.le_refl _) _).alloc (by simp;omega) _
    ·have h1:=(HOUT.out.set i (.slice (some ⟨wr.heap.size,0,none⟩) n n)).alloc (.cells (madeCells #[.int .i64 0] n) 3)
     refine World.rowIs.congr ?_ (f:=(fun j=>if j=i then .slice (some ⟨wr.heap.size,0,none⟩) n n else if j<i then .slice (some ⟨w1.heap.size+1+j,0,none⟩) n n else .slice none 0 0)) (fun j hj=>?_)
     ·exact h1
     ·by_cases e:j=i
      ·subst e;rw [if_pos rfl,if_pos (by omega),e1]
      ·rw [if_neg e]
       by_cases h2:j<i
       ·rw [if_pos h2,if_pos (by omega)]
       ·rw [if_neg h2,if_neg (by omega)]
    ·intro j hj
     by_cases e:j=i
     ·subst e
      have h2:=World.rowIs_made (wr.setCell ⟨w1.heap.size,j,none⟩ (.slice (some ⟨wr.heap.size,0,none⟩) n n)) (.int .i64 0) n 3
      simp only [World.size_setCell] at h2
      rw [← e1]
      exact h2
     ·exact ((HROWS.out j (by omega)).setOther (a:=⟨w1.heap.size,i,none⟩) (by show w1.heap.size+1+j≠w1.heap.size;omega) _).alloc _
   case measure=>simp [intOf];omega
  ·have ek:i=(eqsF ds).length:=by omega
   subst ek
   have hbw:Below w.heap.size w wr:=HB1.out.trans (hbel.mono HB1.out.size)
   have HMAT:Hid (MatI wr w1.heap.size (eqsF ds).length n (fun i=>w1.heap.size+1+i) (fun _ _=>0)):=hide ⟨fun i hi=>(hout.cell hi).trans (by simp [hi]),fun i hi=>hrows i hi,fun i j _ _ e=>by omega,fun i _=>by omega⟩
   have HSZ:=hide hsz
   have HBW:=hide hbw
   have HBEL:=hide hbel
   clear hsz hout hrows hbel hbw
   go_wp2_with fail
   refine (HOR.out _ (HP.out.below HBW.out)).mono ?_
   rintro e w3 ⟨vT,T,rfl,hO,hown,hb3⟩
   have hSS:SS w w3 ds (.slice aE (eqsF ds).length cE) vT T w1.heap.size n (fun i=>w1.heap.size+1+i) (fun _ _=>0):=by
    have hs1:=HB1.out.size
    have hsz:=HSZ.out
    refine ⟨HBW.out.trans (hb3.mono HBW.out.size),own_eqb (own_eqb HE1.out (fun b e=>HBEL.out.block b (HE1.out.lt b e).2)) (fun b e=>hb3.block b (by have:=(HE1.out.lt b e).2;omega)),own_wkO hown HBW.out.size,HMAT.out.below hb3,by have:=hb3.size;omega,⟨by omega,fun i hi=>by omega⟩,fun i hi=>⟨fun e=>by have:=(HE1.out.lt _ e).2;omega,fun e=>by have:=(hown.lt _ e).1;omega⟩⟩
   have hO':=hO
   obtain ⟨aT,cT,rfl,hshT⟩:=own_shape hown
   have p1:=(HP.out.below hSS.bel).c1
   have hnc:vn=vn:=rfl
   have HSS:=hide hSS
   have HO:=hide hO
   clear hSS hO hO' hown hb3 hnc HOR
   obtain ⟨an,capn,rfl,_⟩:=own_shape HP.out.nodes
   go_wp2
   obtain ⟨R,hRe⟩:∃ R:Nat→Nat,R=fun i=>w1.heap.size+1+i:=⟨_,rfl⟩
   rw [← hRe] at HSS
   have hRl:∀ i,i<(eqsF ds).length→R i<w3.heap.size:=fun i hi=>World.rowIs.lt (HSS.out.mat.rows i hi)
   have HRL:=hide hRl
   have HZ:=hide (World.rowIs_made w3 (.int .i64 0) ns.length 3)
   have hTl:=HO.out.len
   clear hRe hRl HMAT
   go_loopw [11,12] (fun vb vk wr=>∃ (k gb:Nat) (Y:Nat→Int) (F:Nat→Nat→Int),k≤n∧vk = .int .i64 k∧vb = .slice (some ⟨gb,0,none⟩) ns.length ns.length∧SS w wr ds (.slice aE (eqsF ds).length cE) (.slice aT T.length cT) T w1.heap.size n R F∧wr.rowIs gb 3 ns.length (fun j=>.int .i64 (Y j))∧(k≠0→∀ c,c<ns.length→Y c=NV (k - 1) c)∧(∀ a b,a<(eqsF ds).length→b<k→F a b=S a b)∧w3.heap.size≤wr.heap.size) (fun _ vk _=>n - (intOf vk).toNat)
   case atStart=>exact ⟨0,w3.heap.size,fun _=>0,fun _ _=>0,Nat.zero_le _,rfl,rfl,HSS.out.alloc _,HZ.out,fun h=>absurd rfl h,fun a b _ h=>by omega,by simp⟩
   case round=>
    clear HZ HSS p1
    obtain ⟨k,gb,Y,F,hk,rfl,rfl,hSS,hY,hYv,hF,h3l⟩:=hrel
    by_cases hkn:k<n
    ·have p1:=(HP.out.below hSS.bel).c1
     have j1:(k:Int)<(n:Int):=by omega
     have j0:(0:Int)≤(k:Int):=by omega
     have hT:RowAt wr (.slice aT T.length cT) (T.map fun (t:Nat)=>(t:Int)):=own_row (by have:=hSS.ord;rw [tCells_i] at this;exact this) (by omega) (by simp)
     have HFI:=hide (fun W bq g X0 hW=>fill_any wr W q ds ns vd _ vX (.slice aT T.length cT) ins NV T (HP.out.below hSS.bel) HWF.out (HX.out.below hSS.bel) hT HM.out HO.out bq g gb k X0 Y hW hYv)
     have HSS:=hide hSS
     have HY:=hide hY
     have HF:=hide hF
     have H3L:=hide h3l
     clear hSS hY hYv hF hT h3l
     go_wp2_with fail
     refine (HFI.out _ (wr.heap.size+1) wr.heap.size (fun _=>0) ⟨((Below.refl _ _).alloc (Nat.le_refl _) _).alloc (by simp) _,?_,?_,HY.out,by omega,Nat.le_refl _,by omega⟩).mono ?_
     ·have h1:=heap_alloc_new (wr.alloc (.cells (madeCells #[.int .i64 0] ns.length) 3)) (.cells #[.int .i64 (k:Int),.slice (some ⟨wr.heap.size,0,none⟩) ns.length ns.length,.slice (some ⟨gb,0,none⟩) ns.length ns.length] 130)
      simpa using h1
     ·exact (World.rowIs_made wr (.int .i64 0) ns.length 3).alloc _
     rintro e w4 ⟨rfl,X,hB4,hX4⟩
     obtain ⟨g,hg⟩:∃ g,g=wr.heap.size:=⟨_,rfl⟩
     have hRg:∀ i,i<(eqsF ds).length→R i<g:=fun i hi=>by have:=HRL.out i hi;have:=H3L.out;omega
     have hgl:g≤w4.heap.size:=by have:=hB4.bel.size;omega
     have HS4:=hide (HSS.out.below hB4.bel)
     have HBK:=hide hB4.blk
     have HNW:=hide hB4.now
     have HX4:=hide hX4
     have HRG:=hide hRg
     have h3l4:w3.heap.size≤w4.heap.size:=by have:=H3L.out;omega
     have hgw:w.heap.size≤g:=by have:=HSS.out.bel.size;omega
     rw [← hg] at HBK HNW
     rw [← hg]
     clear hB4 hX4 HFI HSS HY hRg p1 hg
     go_wp2
     go_loopw [60] (fun vi wx=>∃ (i:Nat) (F2:Nat→Nat→Int),i≤(eqsF ds).length∧vi = .int .i64 i∧SS w wx ds (.slice aE (eqsF ds).length cE) (.slice aT T.length cT) T w1.heap.size n R F2∧wx.heap[g+1]? = some (.cells #[.int .i64 (k:Int),.slice (some ⟨g,0,none⟩) ns.length ns.length,.slice (some ⟨gb,0,none⟩) ns.length ns.length] 130)∧wx.rowIs g 3 ns.length (fun j=>.int .i64 (X j))∧(∀ a b,a<(eqsF ds).length→b<k→F2 a b=S a b)∧(∀ a,a<i→F2 a k=S a k)∧w3.heap.size≤wx.heap.size) (fun vi _=>(eqsF ds).length - (intOf vi).toNat)
     case atStart=>exact ⟨0,F,Nat.zero_le _,rfl,HS4.out,HBK.out,HNW.out,HF.out,fun a ha=>by omega,h3l4⟩
     case round=>
      clear HS4 HBK HNW HF
      obtain ⟨i,F2,hi,rfl,hSS,hbk,hnw,hF,hFk,h3x⟩:=hrel
      by_cases hil:i<(eqsF ds).length
      ·obtain ⟨ge,rfl,_,hge⟩:=hshE (by omega)
       obtain ⟨d,hd⟩:∃ d,d=(eqsF ds)[i]'hil:=⟨_,rfl⟩
       have hdm:d∈ds:=(List.mem_filter.1 (by rw [hd];exact List.getElem_mem hil)).1
       have hdk:d.kind≠0:=by have:=(List.mem_filter.1 (by rw [hd];exact List.getElem_mem hil:d∈eqsF ds)).2;simpa using this
       have hdi:(eqsF ds)[i]? = some d:=by rw [List.getElem?_eq_getElem hil,hd]
       obtain ⟨a,ha,had⟩:=List.getElem_of_mem hdm
       have hrl:d.root<ns.length:=(HM.out.root a d (by rw [List.getElem?_eq_getElem ha,had]) hdk).1
       obtain ⟨x0,x1,x2,x3,x4,x5,x6⟩:=dc_later (own_zero hSS.eqs) (Below.refl _ wr) ((hSS.eqs.lt ge rfl).2) hil d hd
       have j3:(0:Int)≤(i:Int):=by omega
       have j4:(i:Int)<((eqsF ds).length:Int):=by omega
       have r1:(0:Int)≤(d.root:Int):=by omega
       have r2:(d.root:Int)<(ns.length:Int):=by omega
       have hS:=HS.out i d k hdi
       have hXr:=HX4.out d.root hrl
       have hg1:g+1<wr.heap.size:=(Array.getElem?_eq_some_iff.1 hbk).1
       have o1:∀ o,(wr.alloc o).cell? ⟨w1.heap.size,i,none⟩=some (.slice (some ⟨R i,0,none⟩) n n):=fun o=>(hSS.alloc o).mat.outer i hil
       have o2:∀ o,(wr.alloc o).cell? ⟨R i,k,none⟩=some (.int .i64 (F2 i k)):=fun o=>(hSS.alloc o).mat.cell hil hkn
       have o3:∀ o,(wr.alloc o).frozen? ⟨R i,k,none⟩=false:=fun o=>(hSS.alloc o).mat.froz hil k
       have o4:∀ o,(wr.alloc o).cell? ⟨g+1,1,none⟩=some (.slice (some ⟨g,0,none⟩) ns.length ns.length):=fun o=>(World.cell?_alloc_past _ _ _ hg1).trans ((cell_of_row wr _ 1 _ _ _ hbk).trans rfl)
       have o5:∀ o,(wr.alloc o).cell? ⟨g,d.root,none⟩=some (.int .i64 (X d.root)):=fun o=>(hnw.alloc o).cell hrl
       have hRg:=HRG.out i hil
       have hrs:=hSS.ge.2 i hil
       have HSS:=hide hSS
       have HBK:=hide hbk
       have HNW:=hide hnw
       have HF:=hide hF
       have HFK:=hide hFk
       have HXR:=hide (hXr.trans hS)
       clear hSS hbk hnw hF hFk hd hdm hdk hdi ha had hXr hS
       go_wp2_with fail
       go_big_region
       go_wp2
       go_roundw
       case rel=>
        refine ⟨i+1,fun a b=>if a=i∧b=k then X d.root else F2 a b,by omega,by go_num,?_,?_,?_,fun a b ha hb=>?_,fun a ha=>?_,?_⟩
        ·first | exact ((HSS.out.alloc _).drew.set hil k _) | exact ((HSS.out.alloc _).set hil k _).drew
        ·exact (heap_setCell_other _ ⟨R i,k,none⟩ (g+1) _ (by show g+1≠R i;omega)).trans ((Below.heap_alloc _ _ _ hg1).trans HBK.out)
        ·exact HNW.out.of_block ((heap_setCell_other _ ⟨R i,k,none⟩ g _ (by show g≠R i;omega)).trans (Below.heap_alloc _ _ _ (by omega)))
        ·have:¬ (a=i∧b=k):=fun e=>by omega
         simp only [if_neg this];exact HF.out a b ha hb
        ·by_cases e:a=i
         ·subst e;simp only [and_self,if_true];exact HXR.out
         ·simp only [e,false_and,if_false];exact HFK.out a (by omega)
        ·simp;omega
       case measure=>simp [intOf];omega
      ·have ei:i=(eqsF ds).length:=by omega
       subst ei
       have o4:wr.cell? ⟨g+1,1,none⟩=some (.slice (some ⟨g,0,none⟩) ns.length ns.length):=(cell_of_row wr _ 1 _ _ _ hbk).trans rfl
       have HSS:=hide hSS
       have HNW:=hide hnw
       have HF:=hide hF
       have HFK:=hide hFk
       clear hSS hbk hnw hF hFk
       go_wp2
       go_roundw
       case rel=>
        refine ⟨k+1,g,X,F2,by omega,by go_num,rfl,HSS.out,HNW.out,fun _ c hc=>HX4.out c hc,fun a b ha hb=>?_,h3x⟩
        rcases Nat.lt_succ_iff_lt_or_eq.1 hb with h' | rfl
        ·exact HF.out a b ha h'
        ·exact HFK.out a ha
       case measure=>simp [intOf];omega
    ·have ek:k=n:=by omega
     subst ek
     have HSS:=hide hSS
     have HF:=hide hF
     clear hSS hY hYv hF h3l
     go_wp2
     go_ret
     refine ⟨_,rfl,⟨⟨_,w1.heap.size,(eqsF ds).length,R,rfl,fun _=>rfl,HSS.out.mat.congr (fun a b ha hb=>HF.out a b ha hb),HSS.out.ge.2,HSS.out.ge.1⟩⟩,HSS.out.bel⟩
end Go.Proofs.YtmndgoapkmhglabGreat
