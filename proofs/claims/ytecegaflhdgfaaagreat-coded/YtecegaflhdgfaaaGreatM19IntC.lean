import Derived.Test.YtecegaflhdgfaaaGreatM09CwC
import Derived.Test.YtecegaflhdgfaaaGreatM15JudB
import Derived.Test.YtecegaflhdgfaaaGreatM17JudH
import Derived.Test.YtecegaflhdgfaaaGreatM18JudL
namespace Go.Proofs.YtecegaflhdgfaaaGreat
open Go.RowKit
attribute [local go_sem ↓] Go.wp_at_zero Go.wp_at_succ
def TextRes (w w':World) (e:Ending) (s:ByteArray):Prop:=
 ∃ vd vn,e = .returned (.tuple #[.agg #[vd,vn],.int .i64 ((textF s).1:Int),.int .i64 ((textF s).2:Int)])∧
  (((textF s).1≠0∧vd = .slice none 0 0∧vn = .slice none 0 0)∨
   ((textF s).1=0∧∃ p,parseF s = .ok p∧(∃ a n c,vd = .slice a n c)∧(∃ a n c,vn = .slice a n c)∧
    w'.ownsRow w.heap.size 91 7 vd p.decls.length (dcCells p.decls)∧w'.ownsRow w.heap.size 126 11 vn p.nodes.length (ndCells (boundN p))∧(∀ g,vd.ownBlock=some g→vn.ownBlock≠some g)))
theorem row2 {w:World}{N:Nat}{a0 a1:Value}{t:TypeId} (h:w.heap[N]? = some (.cells #[a0,a1] t)) :
  w.cell? ⟨N,0,none⟩=some a0∧w.cell? ⟨N,1,none⟩=some a1∧∀ i,w.frozen? ⟨N,i,none⟩=false:=by
 refine ⟨?_,?_,fun i=>frozen_of_row w N i _ _ h⟩ <;> (rw [cell_of_row w N _ _ _ _ h];rfl)
theorem own_weak {w:World}{B B' e size n:Nat}{v:Value}{xs:List Value} (h:w.ownsRow B e size v n xs) (hb:B'≤B):w.ownsRow B' e size v n xs:=by
 refine ⟨h.1,?_⟩
 rcases h.2 with h0 | ⟨g,cap,cur,hv,h1,hr⟩
 ·exact .inl h0
 ·exact .inr ⟨g,cap,cur,hv,Nat.le_trans hb h1,hr⟩
theorem own_poke {w:World}{B e size n N i:Nat}{v u:Value}{xs:List Value} (h:w.ownsRow B e size v n xs) (hN:N<B):(w.setCell ⟨N,i,none⟩ u).ownsRow B e size v n xs:=
 own_same h (fun g hg=>heap_setCell_other w ⟨N,i,none⟩ g u (by have:=(h.lt g hg).1;show g≠N;omega))
set_option maxHeartbeats 1000000 in
set_option maxRecDepth 100000 in
theorem text_any (s:ByteArray) (w:World) (hs:s.size≤maxLen) (hg:s.size≤1500→∀ p,parseF s = .ok p→Good p.decls (boundN p)) :
  Calls Tryz.prog 21 #[.string s] w fun e w'=>TextRes w w' e s∧Below w.heap.size w w':=by
 unfold maxLen at hs
 by_cases hl:1500<s.size
 ·have HF:Hid (textF s=(1,0)):=hide (by unfold textF;rw [if_pos hl])
  clear hg
  go_enter Tryz.func21,Tryz.ntmps21
  go_wp2
  refine bodyPost_ret (v:=.tuple #[.agg #[.slice none 0 0,.slice none 0 0],.int .i64 1,.int .i64 0]) (by simp [results,Tryz.results21,go_sem]) rfl ?_
  exact ⟨⟨_,_,by rw [HF.out];rfl,.inl ⟨by rw [HF.out];simp,rfl,rfl⟩⟩,(Below.refl _ _).alloc (Nat.le_refl _) _⟩
 ·have hs':s.size≤1500:=by omega
  have HG:=hide (hg hs')
  clear hg
  go_enter Tryz.func21,Tryz.ntmps21
  go_wp2_with fail
  refine (parse_any s _ hs').mono ?_
  rintro e w1 ⟨hr,hb1⟩
  have hR1:=(hb1.block w.heap.size (by simp)).trans (heap_alloc_new w _)
  have hB1:Below w.heap.size w w1:=((Below.refl _ _).alloc (Nat.le_refl _) _).trans (hb1.mono (by simp))
  have hsz1:w.heap.size<w1.heap.size:=by have:=hb1.size;simp at this;omega
  clear hb1
  cases hy:parseF s with
  | error k=>
   rw [hy] at hr
   obtain rfl:=hr
   have HF:Hid (textF s=(2,(tkAt (toks s) k).pos)):=hide (by unfold textF;rw [if_neg hl,hy])
   obtain ⟨r0,r1,rF⟩:=row2 hR1
   have r0':∀ o,(w1.alloc o).cell? ⟨w.heap.size,0,none⟩=some (.slice none 0 0):=fun o=>(World.cell?_alloc_past _ _ _ hsz1).trans r0
   have r1':∀ o,(w1.alloc o).cell? ⟨w.heap.size,1,none⟩=some (.slice none 0 0):=fun o=>(World.cell?_alloc_past _ _ _ hsz1).trans r1
   have rF':∀ o i,(w1.alloc o).frozen? ⟨w.heap.size,i,none⟩=false:=fun o i=>(World.frozen?_alloc_past _ _ _ hsz1).trans (rF i)
   clear hy hR1
   go_wp2
   refine bodyPost_ret (v:=.tuple #[.agg #[.slice none 0 0,.slice none 0 0],.int .i64 2,.int .i64 ((tkAt (toks s) k).pos:Int)]) (by simp [results,Tryz.results21,go_sem, *]) rfl ?_
   refine ⟨⟨_,_,by rw [HF.out];rfl,.inl ⟨by rw [HF.out];simp,rfl,rfl⟩⟩,?_⟩
   exact ((hB1.setCell (Nat.le_refl _) _).setCell (Nat.le_refl _) _).alloc (by simp;omega) _
  | ok p=>
   rw [hy] at hr
   obtain ⟨vd,vn,rfl,hod,hon,hdn⟩:=hr
   have hgood:=HG.out p hy
   have HT:Hid (textF s=meaningF p.decls (boundN p)):=hide (by unfold textF;rw [if_neg hl,hy])
   have HY:=hide hy
   have hbl:(boundN p).length=p.nodes.length:=by simp [boundN]
   have hon':w1.ownsRow (w.heap.size+1) 126 11 vn (boundN p).length (ndCells (boundN p)):=by rw [hbl];simpa [boundN] using hon
   have hod':w1.ownsRow (w.heap.size+1) 91 7 vd p.decls.length (dcCells p.decls):=by simpa using hod
   obtain ⟨ad,cd,rfl,_⟩:=own_shape hod'
   obtain ⟨an,cn,rfl,_⟩:=own_shape hon'
   have hPA:ProgAt (w1.alloc (.cells #[.slice ad p.decls.length cd,.slice an (boundN p).length cn] 56)) w1.heap.size p.decls (boundN p) (.slice ad p.decls.length cd) (.slice an (boundN p).length cn):=
    ⟨by simp,(World.cell?_alloc_at _ _ _ _ rfl).trans rfl,(World.cell?_alloc_at _ _ _ _ rfl).trans rfl,(own_zero hod').alloc _,(own_zero hon').alloc _⟩
   have HPA:=hide hPA
   have HOD:=hide hod'
   have HON:=hide hon'
   have HDN:=hide hdn
   have HGOOD:=hide hgood
   have HBL:=hide hbl
   clear hPA hod hon hdn hgood hy hod' hon' hbl
   go_wp2_with fail
   refine (meaning_any _ _ _ _ _ _ HPA.out HGOOD.out).mono ?_
   rintro e w2 ⟨rfl,hb2⟩
   have hB2:Below w.heap.size w w2:=(hB1.alloc (by omega) _).trans (hb2.mono (by simp;omega))
   have hB12:Below w1.heap.size w1 w2:=((Below.refl _ _).alloc (Nat.le_refl _) _).trans (hb2.mono (by simp))
   have hR2:=(hB12.block _ hsz1).trans hR1
   have hq2:=HPA.out.below hb2
   obtain ⟨r0,r1,rF⟩:=row2 hR2
   have c0:=hq2.c0
   have c1:=hq2.c1
   have nq:w1.heap.size≠w.heap.size:=by omega
   have nq':w.heap.size≠w1.heap.size:=by omega
   have HB12:=hide hB12
   have HB2:=hide hB2
   clear hb2 hR2 hR1 hq2 hB2 hB12 hB1
   by_cases he:(meaningF p.decls (boundN p)).1=0
   ·have q1:(((meaningF p.decls (boundN p)).1:Int) != 0)=false:=by rw [he];rfl
    have HE:Hid ((textF s).1=0):=hide (by rw [HT.out];exact he)
    have HE2:Hid ((textF s).2=0):=hide (by
     rw [HT.out]
     revert he
     unfold meaningF
     split
     ·intro h;cases h
     split
     ·intro h;cases h
     split
     ·intro h;cases h
     split
     ·intro h;cases h
     split
     ·intro h;cases h
     ·intro _;rfl)
    clear he
    go_wp2
    refine bodyPost_ret (v:=.tuple #[.agg #[.slice ad p.decls.length cd,.slice an (boundN p).length cn],.int .i64 0,.int .i64 0]) (by simp [results,Tryz.results21,go_sem, *]) rfl ?_
    refine ⟨⟨_,_,by rw [HE.out,HE2.out];rfl,.inr ⟨HE.out,p,HY.out,⟨_,_,_,rfl⟩,⟨_,_,_,rfl⟩,?_,?_,?_⟩⟩,(HB2.out.setCell (Nat.le_refl _) _).setCell (Nat.le_refl _) _⟩
    ·exact own_weak (own_poke (own_poke (bel_own HOD.out HB12.out) (by omega)) (by omega)) (by omega)
    ·rw [← HBL.out]
     exact own_weak (own_poke (own_poke (bel_own HON.out HB12.out) (by omega)) (by omega)) (by omega)
    ·exact HDN.out
   ·have q1:(((meaningF p.decls (boundN p)).1:Int) != 0)=true:=by rw [bne_iff_ne];omega
    have HE:Hid ((textF s).1≠0):=hide (by rw [HT.out];exact he)
    have HTX:=HT
    clear he
    go_wp2
    refine bodyPost_ret (v:=.tuple #[.agg #[.slice none 0 0,.slice none 0 0],.int .i64 ((meaningF p.decls (boundN p)).1:Int),.int .i64 ((meaningF p.decls (boundN p)).2:Int)]) (by simp [results,Tryz.results21,go_sem, *]) rfl ?_
    exact ⟨⟨_,_,by rw [HTX.out],.inl ⟨HE.out,rfl,rfl⟩⟩,(HB2.out.setCell (Nat.le_refl _) _).setCell (Nat.le_refl _) _⟩
theorem ready_any (w:World) (g r n ch cd:Nat) (H D:Nat→Bool) (hg:w.rowIs g 4 n (fun j=>.bool (H j))) (hr:w.rowIs r 4 n (fun j=>.bool (D j))) (hn:n≤1501) :
  Calls Tryz.prog 66 #[.slice (some ⟨g,0,none⟩) n ch,.slice (some ⟨r,0,none⟩) n cd] w fun e w'=>e = .returned (.bool (decide (∀ j,j<n→H j=true→D j=true)))∧w=w':=by
 go_enter Tryz.func66,Tryz.ntmps66
 go_wp2
 go_loopw [9] (fun vi wr=>∃ i:Nat,i≤n∧vi = .int .i64 i∧w=wr∧∀ j,j<i→H j=true→D j=true) (fun vi _=>n - (intOf vi).toNat)
 case atStart=>exact ⟨0,Nat.zero_le _,rfl,rfl,fun j hj=>by omega⟩
 case round=>
  obtain ⟨i,hi,rfl,rfl,hall⟩:=hrel
  by_cases hlt:i<n
  ·have x1:=hg.cell hlt
   have x2:=hr.cell hlt
   have j1:(0:Int)≤(i:Int):=by omega
   have j2:(i:Int)<(n:Int):=by omega
   have HALL:=hide hall
   clear hall
   by_cases hh:H i=true
   ·by_cases hd:D i=true
    ·go_wp2
     go_roundw
     case rel=>exact ⟨i+1,by omega,by go_num,by first | rfl | trivial,fun j hj h=>by rcases Nat.lt_succ_iff_lt_or_eq.1 hj with h' | rfl;exact HALL.out j h' h;exact hd⟩
     case measure=>simp [intOf];omega
    ·have hd':D i=false:=by simpa using hd
     have HF:Hid (decide (∀ j,j<n→H j=true→D j=true)=false):=hide (by rw [decide_eq_false_iff_not];exact fun h=>hd (h i hlt hh))
     clear hd
     go_wp2
     go_ret
     exact ⟨by rw [HF.out];rfl,rfl⟩
   ·have hh':H i=false:=by simpa using hh
    have HNO:=hide hh
    clear hh
    go_wp2
    go_roundw
    case rel=>exact ⟨i+1,by omega,by go_num,by first | rfl | trivial,fun j hj h=>by rcases Nat.lt_succ_iff_lt_or_eq.1 hj with h' | rfl;exact HALL.out j h' h;exact absurd h HNO.out⟩
    case measure=>simp [intOf];omega
  ·have HF:Hid (decide (∀ j,j<n→H j=true→D j=true)=true):=hide (by rw [decide_eq_true_iff];exact fun j hj=>hall j (by omega))
   clear hall
   go_wp2
   go_ret
   exact ⟨by rw [HF.out];rfl,rfl⟩
theorem Tryz.infoIntO:(Tryz.prog.info? 3).map (fun i=>(i.zero,i.size,i.bytes))=some (some (.int .i64 0),1,8):=by kernel_rfl
def tCells (T:List Nat):List Value:=T.map fun (t:Nat)=>Value.int .i64 (t:Int)
theorem tCells_snoc (T:List Nat) (t:Nat):tCells (T ++ [t])=tCells T ++ [.int .i64 (t:Int)]:=by simp [tCells]
theorem own_eqb {w w':World}{B e size n:Nat}{v:Value}{xs:List Value} (h:w.ownsRow B e size v n xs) (hk:∀ b,v.ownBlock=some b→w'.heap[b]? = w.heap[b]?):w'.ownsRow B e size v n xs:=by
 refine ⟨h.1,?_⟩
 rcases h.2 with h0 | ⟨g,cap,cur,rfl,hb,hg,h1⟩
 ·exact .inl h0
 ·exact .inr ⟨g,cap,cur,rfl,hb,(hk g rfl).trans hg,h1⟩
theorem own_wkO {w:World}{B B' e size n:Nat}{v:Value}{xs:List Value} (h:w.ownsRow B e size v n xs) (hb:B'≤B):w.ownsRow B' e size v n xs:=by
 refine ⟨h.1,?_⟩
 rcases h.2 with h0 | ⟨g,cap,cur,hv,h1,hr⟩
 ·exact .inl h0
 ·exact .inr ⟨g,cap,cur,hv,Nat.le_trans hb h1,hr⟩
structure OrdS (w wr:World) (dq:Nat) (ds:List Dc) (R:Nat→Nat) (H:Mx) (T:List Nat) (v:Value):Prop where
 bel:Below w.heap.size w wr
 mat:Mat wr w.heap.size ds.length R H
 done:wr.rowIs dq 4 ds.length (fun j=>.bool (decide (j∈T)))
 own:wr.ownsRow (dq+1) 3 1 v T.length (tCells T)
 eqn:∀ t∈T,∃ d,ds[t]? = some d∧d.kind≠0
 topo:∀ (j t:Nat),T[j]? = some t→∀ b,H t b=true→b∈T.take j
 rlt:∀ i,i<ds.length→R i<dq
 ge:w.heap.size<dq
theorem OrdS.alloc {w wr:World}{dq:Nat}{ds:List Dc}{R:Nat→Nat}{H:Mx}{T:List Nat}{v:Value} (h:OrdS w wr dq ds R H T v) (o:Obj):OrdS w (wr.alloc o) dq ds R H T v:=
 ⟨h.bel.alloc h.bel.size _,h.mat.alloc o,h.done.alloc o,h.own.alloc o,h.eqn,h.topo,h.rlt,h.ge⟩
theorem OrdS.push {w wr w3 W:World}{dq:Nat}{ds:List Dc}{R:Nat→Nat}{H:Mx}{T:List Nat}{v v':Value} (h:OrdS w wr dq ds R H T v) {i:Nat}{d:Dc} (hd:ds[i]? = some d) (hk:d.kind≠0) (hb:∀ b,H i b=true→b∈T)
  (hW:∀ b,b<wr.heap.size→b≠dq→W.heap[b]? = wr.heap[b]?) (hWd:W.rowIs dq 4 ds.length (fun j=>if j=i then .bool true else .bool (decide (j∈T)))) (hbW:Below w.heap.size w w3)
  (hg:∀ b,b<W.heap.size→v.ownBlock≠some b→w3.heap[b]? = W.heap[b]?) (hWs:wr.heap.size≤W.heap.size) (hown:w3.ownsRow (dq+1) 3 1 v' (T.length+1) (tCells T ++ [.int .i64 (i:Int)])):OrdS w w3 dq ds R H (T ++ [i]) v':=by
 have hnb:∀ b,b≤dq→v.ownBlock≠some b:=fun b hb e=>by have:=(h.own.lt _ e).1;omega
 have hdl:dq<wr.heap.size:=World.rowIs.lt h.done
 have hkeep:∀ b,b<dq→w3.heap[b]? = wr.heap[b]?:=fun b hb=>(hg b (by omega) (hnb b (by omega))).trans (hW b (by omega) (by omega))
 refine ⟨hbW,h.mat.keep (hkeep _ h.ge) (fun i hi=>hkeep _ (h.rlt i hi)),?_,?_,?_,?_,h.rlt,h.ge⟩
 ·refine (hWd.of_block (hg dq (by omega) (hnb dq (Nat.le_refl _)))).congr (fun j _=>?_)
  by_cases e:j=i
  ·subst e;simp
  ·simp [e]
 ·rw [tCells_snoc,List.length_append];exact hown
 ·intro t ht
  rcases List.mem_append.1 ht with ht | ht
  ·exact h.eqn t ht
  ·rw [List.mem_singleton] at ht;subst ht;exact ⟨d,hd,hk⟩
 ·intro j t ht b hbt
  by_cases hj:j<T.length
  ·rw [List.getElem?_append_left hj] at ht
   rw [List.take_append_of_le_length (by omega)]
   exact h.topo j t ht b hbt
  ·rw [List.getElem?_append_right (by omega)] at ht
   have hj0:j - T.length=0:=by
    have:=(List.getElem?_eq_some_iff.1 ht).1
    simp at this;omega
   rw [hj0] at ht
   have e:i=t:=by simpa using ht
   subst e
   have ej:j=T.length:=by omega
   subst ej
   rw [List.take_left]
   exact hb b hbt
set_option maxHeartbeats 2000000 in
set_option maxRecDepth 100000 in
theorem order_any (w:World) (q:Nat) (ds:List Dc) (ns:List Nd) (vd vn:Value) (h:ProgAt w q ds ns vd vn) (hwf:ProgWf ds ns) (hbd:∀ n∈ns,n.kind=2→0≤n.decl) (hn:ds.length≤16) (rank:Nat→Nat) (hR:Ranked ds (markAll ds ns 0 ds noM) rank) :
  Calls Tryz.prog 37 #[.pointer (some ⟨q,0,none⟩)] w fun e w'=>∃ v T,e = .returned v∧OrdOk ds (markAll ds ns 0 ds noM) T∧w'.ownsRow w.heap.size 3 1 v T.length (tCells T)∧Below w.heap.size w w':=by
 have c0:=h.c0
 obtain ⟨av,cap,rfl,hsh⟩:=own_shape h.decls
 obtain ⟨i0,hi0,hz0,hz1,hz2⟩:=info_parts Tryz.infoIntO
 have hm2:=run_make_row' (P:=Tryz.prog) 97 4 (.bool false) 1 Tryz.underlying97 Tryz.infoBool rfl .i64 .i64 ds.length (by omega) (by omega)
 have HSH:=hide hsh
 have HP:=hide h
 have HR:=hide hR
 have HH:=hide (hangs_any w q ds ns _ _ h hwf hbd)
 clear h hsh hwf hbd hR
 go_enter Tryz.func37,Tryz.ntmps37
 go_wp2_with fail
 refine HH.out.mono ?_
 rintro e w1 ⟨rfl,⟨R,hM1,hR1⟩,hb1,hs1⟩
 have c0':∀ o,(w1.alloc o).cell? ⟨q,0,none⟩=some (.slice av ds.length cap):=fun o=>(HP.out.below (hb1.alloc hb1.size o)).c0
 have c0'':=(HP.out.below hb1).c0
 obtain ⟨H,hHE⟩:∃ H,H=markAll ds ns 0 ds noM:=⟨_,rfl⟩
 rw [← hHE] at hM1 HR
 have HHE:=hide hHE
 clear hHE
 have HS:Hid (∀ o,o = .cells (madeCells #[.bool false] ds.length) 4→OrdS w (w1.alloc o) w1.heap.size ds R H [] (.slice none 0 0)):=hide (fun o ho=>by
  subst ho
  exact ⟨hb1.alloc hb1.size _,hM1.alloc _,(World.rowIs_made w1 (.bool false) ds.length 4).congr (fun j _=>by simp),World.ownsRow_nil _ _ _ _,fun t ht=>by simp at ht,fun j t ht=>by simp at ht,fun i hi=>World.rowIs.lt (hM1.rows i hi),hs1⟩)
 have HGE:=hide hs1
 clear hM1 hR1 HH c0 hb1 hs1
 go_wp2
 go_loopw [5,21] (fun v vr wr=>∃ (r:Nat) (T:List Nat),r≤ds.length∧vr = .int .i64 r∧OrdS w wr w1.heap.size ds R H T v∧T.length≤r * 16∧(∀ (a:Nat) (d:Dc),ds[a]? = some d→d.kind≠0→rank a<r→a∈T)) (fun _ vr _=>ds.length - (intOf vr).toNat)
 case atStart=>exact ⟨0,[],Nat.zero_le _,rfl,HS.out _ rfl,by simp,fun a d _ _ h=>by omega⟩
 case round=>
  clear HS c0' c0''
  obtain ⟨r,T,hr,rfl,hS,hlen,hall⟩:=hrel
  by_cases hrl:r<ds.length
  ·have p0:=(HP.out.below hS.bel).c0
   have j1:(r:Int)<(ds.length:Int):=by omega
   have HSS:=hide hS
   have HALL:=hide hall
   have hl0:T.length≤r * 16+0:=by omega
   clear hS hall
   go_wp2
   go_loopw [5,28] (fun v vi wr=>∃ (i:Nat) (T:List Nat),i≤ds.length∧vi = .int .i64 i∧OrdS w wr w1.heap.size ds R H T v∧T.length≤r * 16+i∧(∀ (a:Nat) (d:Dc),ds[a]? = some d→d.kind≠0→rank a<r→a∈T)∧(∀ (a:Nat) (d:Dc),ds[a]? = some d→d.kind≠0→a<i→rank a≤r→a∈T)) (fun _ vi _=>ds.length - (intOf vi).toNat)
   case atStart=>exact ⟨0,T,Nat.zero_le _,rfl,HSS.out,hl0,HALL.out,fun a d _ _ h=>by omega⟩
   case round=>
    clear HSS HALL p0 hl0 hlen
    obtain ⟨i,T,hi,rfl,hS,hlen,hall,hrow⟩:=hrel
    by_cases hil:i<ds.length
    ·obtain ⟨g,rfl,_,hg2⟩:=HSH.out (by omega)
     obtain ⟨a,ha⟩:∃ a,a=ds[i]'hil:=⟨_,rfl⟩
     obtain ⟨x0,x1,x2,x3,x4,x5,x6⟩:=dc_later HP.out.decls hS.bel hg2 hil a ha
     have had:ds[i]? = some a:=by rw [List.getElem?_eq_getElem hil,ha]
     have j3:(0:Int)≤(i:Int):=by omega
     have j4:(i:Int)<(ds.length:Int):=by omega
     have o1:∀ o,(wr.alloc o).cell? ⟨w1.heap.size,i,none⟩=some (.bool (decide (i∈T))):=fun o=>(hS.alloc o).done.cell hil
     have f1:∀ o,(wr.alloc o).frozen? ⟨w1.heap.size,i,none⟩=false:=fun o=>(hS.alloc o).done.frozen i
     have o2:∀ o,(wr.alloc o).cell? ⟨w.heap.size,i,none⟩=some (.slice (some ⟨R i,0,none⟩) ds.length ds.length):=fun o=>(hS.alloc o).mat.outer i hil
     have HRD:=hide (fun o=>ready_any (wr.alloc o) (R i) w1.heap.size ds.length ds.length ds.length (H i) (fun j=>decide (j∈T)) ((hS.alloc o).mat.rows i hil) (hS.alloc o).done (by omega))
     have HSS:=hide hS
     have HALL:=hide hall
     have HROW:=hide hrow
     have HAD:=hide had
     clear hS hall hrow ha had
     by_cases hk0:a.kind=0
     ·have q0:((a.kind:Int) != 0)=false:=by rw [hk0];rfl
      have HK:=hide hk0
      clear hk0
      go_wp2
      go_roundw
      case rel=>
       refine ⟨i+1,T,by omega,by go_num,HSS.out.alloc _,by omega,HALL.out,fun b d hd hkb hlt hrk=>?_⟩
       rcases Nat.lt_succ_iff_lt_or_eq.1 hlt with h' | rfl
       ·exact HROW.out b d hd hkb h' hrk
       ·rw [HAD.out] at hd;cases hd;exact absurd HK.out hkb
      case measure=>simp [intOf];omega
     ·have q0:((a.kind:Int) != 0)=true:=by rw [bne_iff_ne];omega
      have HK:=hide hk0
      clear hk0
      by_cases hmem:i∈T
      ·have qm:decide (i∈T)=true:=by simpa using hmem
       rw [qm] at o1
       have HMEM:=hide hmem
       clear hmem qm
       go_wp2
       go_roundw
       case rel=>
        refine ⟨i+1,T,by omega,by go_num,HSS.out.alloc _,by omega,HALL.out,fun b d hd hkb hlt hrk=>?_⟩
        rcases Nat.lt_succ_iff_lt_or_eq.1 hlt with h' | rfl
        ·exact HROW.out b d hd hkb h' hrk
        ·exact HMEM.out
       case measure=>simp [intOf];omega
      ·have qm:decide (i∈T)=false:=by simpa using hmem
       rw [qm] at o1
       clear qm
       by_cases hrd:∀ j,j<ds.length→H i j=true→decide (j∈T)=true
       ·have qr:decide (∀ j,j<ds.length→H i j=true→decide (j∈T)=true)=true:=by rw [decide_eq_true_iff];exact hrd
        have HRY:=hide hrd
        rw [qr] at HRD
        have hTl:T.length≤300:=by
         have:r * 16≤16 * 16:=Nat.mul_le_mul_right _ (by omega)
         omega
        have hown:=HSS.out.own
        have hdql:w1.heap.size<wr.heap.size:=World.rowIs.lt HSS.out.done
        have hownp:∀ o o',(((wr.setCell ⟨w1.heap.size,i,none⟩ (.bool true)).alloc o).alloc o').ownsRow (w1.heap.size+1) 3 1 u5 T.length (tCells T):=fun o o'=>((own_eqb hown (fun b hb=>heap_setCell_other wr ⟨w1.heap.size,i,none⟩ b _ (by have:=(hown.lt b hb).1;show b≠w1.heap.size;omega))).alloc o).alloc o'
        have hWd:∀ o o',(((wr.setCell ⟨w1.heap.size,i,none⟩ (.bool true)).alloc o).alloc o').rowIs w1.heap.size 4 ds.length (fun j=>if j=i then .bool true else .bool (decide (j∈T))):=fun o o'=>(((HSS.out.done.set i (.bool true)).alloc o).alloc o').congr (fun j _=>by rfl)
        have HWD:=hide hWd
        clear hrd qr hWd hmem
        go_wp2_with fail
        refine (HRD.out _).mono ?_
        rintro e w2 ⟨rfl,rfl⟩
        go_wp2_with (at_builtin;refine wpList_append_lies _ rfl _ _ _ rfl (w1.heap.size+1) 3 i0 _ 1 8 Tryz.underlying34 hi0 hz0 hz1 hz2 rfl (by omega) _ T.length (tCells T) rfl (hownp _ _) ⟨wr.heap.size+1,0,none⟩ 1 1 [.int .i64 (i:Int)] rfl rfl (World.news_of_block (cs:=#[.int .i64 (i:Int)]) (t:=3) (fr:=(0,0)) (by have:=heap_alloc_new ((wr.setCell ⟨w1.heap.size,i,none⟩ (.bool true)).alloc (.cells #[.int .i64 (a.kind:Int),.int .i64 (a.number:Int),.string a.name,.int .i64 (a.pos:Int),.int .i64 (a.place:Int),.int .i64 (a.root:Int),.int .i64 (a.fin:Int)] 91)) (.cells #[.int .i64 (i:Int)] 3);simpa using this)) (by simp [Value.oneCell']) (by omega) (by unfold maxLen;omega) (by omega) (by simp;omega) (wr.heap.size+2) (by simp) ?_;intro gg cap2 w3 hown3 hgrow hat hlt3)
        go_roundw
        case rel=>
         have hbs:=HSS.out.bel.size
         refine ⟨i+1,T ++ [i],by omega,by go_num,?_,by rw [List.length_append];simp;omega,fun b d hd hkb hrk=>List.mem_append_left _ (HALL.out b d hd hkb hrk),fun b d hd hkb hlt hrk=>?_⟩
         ·refine HSS.out.push HAD.out HK.out (fun b hb=>?_) (fun b hb hne=>?_) (HWD.out _ _) ?_ (fun b hb hne=>hgrow.block b hb (Ne.symm hne)) (by simp;omega) hown3
          ·obtain ⟨_,d,hd,_⟩:=HR.out.less i b hb
           have:=HRY.out b (List.getElem?_eq_some_iff.1 hd).1 hb
           simpa using this
          ·rw [Below.heap_alloc _ _ _ (by simp;omega),Below.heap_alloc _ _ _ (by simp;omega)]
           exact heap_setCell_other wr ⟨w1.heap.size,i,none⟩ b _ hne
          ·exact ((((HSS.out.bel.setCell (by show w.heap.size≤w1.heap.size;have:=HGE.out;omega) _).alloc (by simp;omega) _).alloc (by simp;omega) _)).grown hgrow (by simp;omega) (fun j hj=>by have:=ownBlock_ge hown j hj;have:=HGE.out;omega)
         ·rcases Nat.lt_succ_iff_lt_or_eq.1 hlt with h' | rfl
          ·exact List.mem_append_left _ (HROW.out b d hd hkb h' hrk)
          ·simp
        case measure=>simp [intOf];omega
       ·have qr:decide (∀ j,j<ds.length→H i j=true→decide (j∈T)=true)=false:=by rw [decide_eq_false_iff_not];exact hrd
        rw [qr] at HRD
        have HRN:=hide hrd
        clear qr hrd hmem
        go_wp2_with fail
        refine (HRD.out _).mono ?_
        rintro e w2 ⟨rfl,rfl⟩
        go_wp2
        go_roundw
        case rel=>
         refine ⟨i+1,T,by omega,by go_num,HSS.out.alloc _,by omega,HALL.out,fun b d hd hkb hlt hrk=>?_⟩
         rcases Nat.lt_succ_iff_lt_or_eq.1 hlt with h' | rfl
         ·exact HROW.out b d hd hkb h' hrk
         ·exfalso
          refine HRN.out (fun j hj hh=>?_)
          obtain ⟨h1,e,he,hke⟩:=HR.out.less b j hh
          simpa using HALL.out j e he hke (by omega)
        case measure=>simp [intOf];omega
    ·have ei:i=ds.length:=by omega
     subst ei
     have HSS:=hide hS
     have HROW:=hide hrow
     clear hS hrow hall
     go_wp2
     go_roundw
     case rel=>
      refine ⟨r+1,T,by omega,by go_num,HSS.out,by omega,fun b d hd hkb hrk=>HROW.out b d hd hkb (List.getElem?_eq_some_iff.1 hd).1 (by omega)⟩
     case measure=>simp [intOf];omega
  ·have er:r=ds.length:=by omega
   subst er
   have HSS:=hide hS
   have HALL:=hide hall
   clear hS hall
   go_wp2
   go_ret
   rw [← HHE.out]
   refine ⟨_,T,rfl,⟨HSS.out.eqn,HSS.out.topo,fun b d hd hkb=>HALL.out b d hd hkb (HR.out.lt b d hd hkb),by omega⟩,own_wkO HSS.out.own (by have:=HGE.out;omega),HSS.out.bel⟩
end Go.Proofs.YtecegaflhdgfaaaGreat
namespace Go.Proofs.YtecegaflhdgfaaaGreat
open Go.RowKit
def pCells (l:List Nat):List Value:=l.map fun (n:Nat)=>Value.int .i64 (n:Int)
theorem pCells_snoc (l:List Nat) (n:Nat):pCells (l ++ [n])=pCells l ++ [.int .i64 (n:Int)]:=by simp [pCells]
theorem Tryz.infoInt:(Tryz.prog.info? 3).map (fun i=>(i.zero,i.size,i.bytes))=some (some (.int .i64 0),1,8):=by kernel_rfl
end Go.Proofs.YtecegaflhdgfaaaGreat
