import Derived.ArgAppend
import Derived.Test.YtecegaflhdgfaaaGreatM20WrB
import Derived.Test.YtecegaflhdgfaaaGreatM24ExC
namespace Go.Proofs.YtecegaflhdgfaaaGreat
open Go.RowKit
attribute [local go_sem ↓] Go.wp_at_zero Go.wp_at_succ
theorem own_wk {w:World}{B B':Nat}{e:TypeId}{size n:Nat}{v:Value}{xs:List Value} (h:w.ownsRow B e size v n xs) (hb:B'≤B):w.ownsRow B' e size v n xs:=by
 refine ⟨h.1,?_⟩
 rcases h.2 with h0 | ⟨g,cap,cur,h1,h2,h3⟩
 ·exact .inl h0
 ·exact .inr ⟨g,cap,cur,h1,Nat.le_trans hb h2,h3⟩
theorem iCells_snoc (l:List Int) (x:Int):iCells (l ++ [x])=iCells l ++ [.int .i64 x]:=by simp [iCells]
theorem own_rowN {B:Nat}{w:World}{v:Value}{n:Nat}{xs:List Int} (h:w.ownsRow B 3 1 v n (iCells xs)) (hn:n≤1000000) (hl:xs.length=n):RowAt w v xs:=by
 rcases h.2 with ⟨rfl,h0⟩ | ⟨g,cap,cur,rfl,hb,hg,h1,h2,h3,h4⟩
 ·exact ⟨none,0,by rw [hl,h0],by omega,fun hp=>by omega⟩
 ·refine ⟨_,_,by rw [hl],by omega,fun hp=>⟨g,0,rfl,(Array.getElem?_eq_some_iff.1 hg).1,fun c hc=>?_⟩⟩
  rw [Nat.zero_add,h.cellAt c (by omega),iCells_get,List.getElem?_eq_getElem hc];rfl
theorem atF_in {l:List Int}{i:Int} (h:regOk l.length i=true):0≤i∧i<(l.length:Int)∧∃ h:i.toNat<l.length,atF l i=l[i.toNat]:=by
 unfold regOk at h
 simp only [Bool.and_eq_true,decide_eq_true_eq] at h
 refine ⟨h.1,h.2,by omega,?_⟩
 unfold atF
 rw [if_neg (by omega),List.getD_eq_getElem?_getD,List.getElem?_eq_getElem (by omega)];rfl
theorem formed_parts {c:CdF} (h:formedF c=true):c.ops.length≤1500∧c.next.length≤1500∧c.out.length≤1500∧c.cells.length=c.next.length∧(∀ x∈c.next,regOk c.ops.length x=true)∧(∀ x∈c.out,regOk c.ops.length x=true)∧opsOk c.cells.length 0 c.ops=true:=by
 unfold formedF at h
 simp only [Bool.and_eq_true,decide_eq_true_eq,List.all_eq_true] at h
 obtain ⟨⟨⟨⟨⟨⟨h1,h2⟩,h3⟩,h4⟩,h5⟩,h6⟩,h7⟩:=h
 exact ⟨h1,h2,h3,h4,h6,h7,h5⟩
theorem opsOk_at (nc:Nat):∀ (l:List OpF) (i:Nat),opsOk nc i l=true→∀ k,(hk:k<l.length)→opOk nc (i+k) l[k]=true:=by
 intro l
 induction l with
 | nil=>intro i _ k hk;simp at hk
 | cons o r ih=>
  intro i h k hk
  simp only [opsOk,Bool.and_eq_true] at h
  cases k with
  | zero=>exact h.1
  | succ k=>have:=ih (i+1) h.2 k (by simpa using hk);rw [show i+(k+1)=i+1+k by omega];exact this
theorem op_kind {nc i:Nat}{o:OpF} (h:opOk nc i o=true):0≤o.k∧o.k≤14:=by
 unfold opOk at h
 simp only [Bool.and_eq_true,decide_eq_true_eq] at h
 exact ⟨h.1.1.1,h.1.1.2⟩
set_option maxHeartbeats 8000000 in
set_option maxRecDepth 100000 in
theorem rExec_any (w:World) (vO vC vN vU:Value) (c:CdF) (h:CodeAt w vO vC vN vU c) (n:Int) (vc vi vl:Value) (cells ins links:List Int) (hc:RowAt w vc cells) (hi:RowAt w vi ins) (hl:RowAt w vl links) :
  Calls Tryz.prog 33 #[.agg #[vO,vC,vN,vU],.int .i64 n,vc,vi,vl] w fun e w'=>∃ vo vn,e = .returned (.tuple #[vo,vn,.int .i64 ((execF c n cells ins links).1:Nat)])∧
   w'.ownsRow w.heap.size 3 1 vo (execF c n cells ins links).2.1.length (iCells (execF c n cells ins links).2.1)∧w'.ownsRow w.heap.size 3 1 vn (execF c n cells ins links).2.2.length (iCells (execF c n cells ins links).2.2)∧(execF c n cells ins links).2.1.length≤1500∧(execF c n cells ins links).2.2.length≤1500∧Below w.heap.size w w':=by
 obtain ⟨i0,hi0,hz0,hz1,hz2⟩:=info_parts Tryz.infoInt
 have HH:=hide h
 have HCE:=hide hc
 have HIN:=hide hi
 have HLK:=hide hl
 obtain ⟨Ao,Co,rfl,hmo,hco⟩:=h.ops
 obtain ⟨Ac,Cc,rfl,hmc,hcc⟩:=h.cells
 obtain ⟨An,Cn,rfl,hmn,hcn⟩:=h.next
 obtain ⟨Au,Cu,rfl,hmu,hcu⟩:=h.out
 obtain ⟨bx,hbx⟩:∃ bx,bx=w.alloc (.cells #[.slice Ao c.ops.length Co,.slice Ac c.cells.length Cc,.slice An c.next.length Cn,.slice Au c.out.length Cu] 43):=⟨_,rfl⟩
 have HB0:Hid (Below w.heap.size w bx):=hide (by rw [hbx];exact (Below.refl _ _).alloc (Nat.le_refl _) _)
 have HSZ:Hid (w.heap.size<bx.heap.size):=hide (by rw [hbx];simp)
 have HC:Hid (∀ W,Below bx.heap.size bx W→W.cell? ⟨w.heap.size,0,none⟩=some (.slice Ao c.ops.length Co)∧W.cell? ⟨w.heap.size,1,none⟩=some (.slice Ac c.cells.length Cc)∧W.cell? ⟨w.heap.size,2,none⟩=some (.slice An c.next.length Cn)∧W.cell? ⟨w.heap.size,3,none⟩=some (.slice Au c.out.length Cu)):=hide (fun W hW=>by
  have hN:W.heap[w.heap.size]? = some (.cells #[.slice Ao c.ops.length Co,.slice Ac c.cells.length Cc,.slice An c.next.length Cn,.slice Au c.out.length Cu] 43):=(hW.block w.heap.size HSZ.out).trans (by rw [hbx];exact heap_alloc_new w _)
  exact ⟨by rw [cell_of_row W _ 0 _ _ _ hN];rfl,by rw [cell_of_row W _ 1 _ _ _ hN];rfl,by rw [cell_of_row W _ 2 _ _ _ hN];rfl,by rw [cell_of_row W _ 3 _ _ _ hN];rfl⟩)
 have HFM:=hide (rformed_any bx _ _ _ _ c (HH.out.below HB0.out))
 obtain ⟨Az,Cz,rfl,hmz,_⟩:=hc
 obtain ⟨Ai,Ci,rfl,_,_⟩:=hi
 obtain ⟨Al,Cl,rfl,_,_⟩:=hl
 have HEX:Hid (execF c n cells ins links=if formedF c=false then (9,[],[]) else if n<0∨cells.length≠c.cells.length then (10,[],[]) else (0,c.out.map (atF (regsF n cells ins links [] c.ops)),c.next.map (atF (regsF n cells ins links [] c.ops)))):=hide rfl
 have HCO:=hide hco
 have HCN:=hide hcn
 have HCU:=hide hcu
 clear hco hcc hcn hcu h
 go_enter Tryz.func33,Tryz.ntmps33
 go_wp2_with fail
 rw [← hbx]
 clear hbx
 refine HFM.out.mono ?_
 rintro e w1 ⟨rfl,hb1⟩
 have HB1:=hide hb1
 clear hb1 HFM
 obtain ⟨x0,x1,x2,x3⟩:=HC.out w1 HB1.out
 by_cases hf:formedF c=true
 case neg=>
  have hff:formedF c=false:=by simpa using hf
  have HE:Hid (execF c n cells ins links=(9,[],[])):=hide (by rw [HEX.out,if_pos hff])
  rw [hff]
  clear hf hff HEX
  go_wp2
  go_ret3
  rw [HE.out]
  exact ⟨_,_,rfl,World.ownsRow_nil _ _ _ _,World.ownsRow_nil _ _ _ _,Nat.zero_le _,Nat.zero_le _,HB0.out.trans (HB1.out.mono HB0.out.size)⟩
 case pos=>
  rw [hf]
  by_cases ha:n<0∨cells.length≠c.cells.length
  ·have HE:Hid (execF c n cells ins links=(10,[],[])):=hide (by rw [HEX.out,if_neg (by rw [hf];decide),if_pos ha])
   have hcs:n<0∨(¬ n<0∧((cells.length:Int) != (c.cells.length:Int))=true):=by
    by_cases h:n<0
    ·exact .inl h
    ·right;refine ⟨h,?_⟩;rw [bne_iff_ne];rcases ha with h' | h' <;> omega
   clear hf HEX ha
   rcases hcs with z1 | ⟨z1,z2⟩
   all_goals
    go_wp2
    go_ret3
    rw [HE.out]
    exact ⟨_,_,rfl,World.ownsRow_nil _ _ _ _,World.ownsRow_nil _ _ _ _,Nat.zero_le _,Nat.zero_le _,HB0.out.trans (HB1.out.mono HB0.out.size)⟩
  ·have HE:Hid (execF c n cells ins links=(0,c.out.map (atF (regsF n cells ins links [] c.ops)),c.next.map (atF (regsF n cells ins links [] c.ops)))):=hide (by rw [HEX.out,if_neg (by rw [hf];decide),if_neg ha])
   have z1:¬ n<0:=fun h=>ha (.inl h)
   have z2:((cells.length:Int) != (c.cells.length:Int))=false:=by
    by_cases h:cells.length=c.cells.length
    ·rw [h];simp
    ·exact absurd (.inr h) ha
   obtain ⟨p1,p2,p3,p4,p5,p6,p7⟩:=formed_parts hf
   have HPN:=hide p5
   have HPO:=hide p6
   have HOK:=hide p7
   have HRL:=hide (fun k=>regsF_len n cells ins links (c.ops.take k) [])
   clear hf ha HEX p4 p5 p6 p7
   go_wp2
   go_loopw [14,17] (fun vR vk wr=>∃ k:Nat,k≤c.ops.length∧vk = .int .i64 k∧wr.ownsRow bx.heap.size 3 1 vR k (iCells (regsF n cells ins links [] (c.ops.take k)))∧Below bx.heap.size bx wr) (fun _ vk _=>c.ops.length - (intOf vk).toNat)
   case atStart=>exact ⟨0,Nat.zero_le _,rfl,World.ownsRow_nil _ _ _ _,HB1.out⟩
   case round=>
    clear x0 x1 x2 x3
    obtain ⟨k,hk,rfl,hown,hbr⟩:=hrel
    obtain ⟨aR,cR,rfl,hshR⟩:=own_shape hown
    obtain ⟨x0,x1,x2,x3⟩:=HC.out wr hbr
    have HBR:=hide hbr
    have HBW:=hide (HB0.out.trans (hbr.mono HB0.out.size))
    have hrl:(regsF n cells ins links [] (c.ops.take k)).length=k:=by rw [HRL.out k,List.length_take];simp;omega
    by_cases hkl:k<c.ops.length
    ·obtain ⟨b,o,rfl,hbl,hcell⟩:=HCO.out (by omega)
     obtain ⟨op,hop⟩:∃ op,op=c.ops[k]'hkl:=⟨_,rfl⟩
     obtain ⟨c0,c1,c2,c3⟩:=hcell k hkl
     rw [← hop] at c0 c1 c2 c3
     have d0:=(HBW.out.cell (p:=⟨b,o+k * 4,none⟩) hbl).trans c0
     have d1:=(HBW.out.cell (p:=⟨b,o+k * 4+1,none⟩) hbl).trans c1
     have d2:=(HBW.out.cell (p:=⟨b,o+k * 4+2,none⟩) hbl).trans c2
     have d3:=(HBW.out.cell (p:=⟨b,o+k * 4+3,none⟩) hbl).trans c3
     have hkd:=op_kind (by have:=opsOk_at _ _ 0 HOK.out k hkl;rwa [Nat.zero_add,← hop] at this)
     have HSN:Hid (regsF n cells ins links [] (c.ops.take (k+1))=regsF n cells ins links [] (c.ops.take k) ++ [laysF op n (regsF n cells ins links [] (c.ops.take k)) cells ins links]):=hide (by
      rw [List.take_succ_eq_append_getElem hkl,regsF_snoc,← hop])
     have HOWN:=hide hown
     have HCALL:Hid (∀ W,Below wr.heap.size wr W→Calls Tryz.prog 55 #[op.val,.int .i64 n,.slice aR k cR,.slice Az cells.length Cz,.slice Ai ins.length Ci,.slice Al links.length Cl] W fun e w'=>e = .returned (.int .i64 (laysF op n (regsF n cells ins links [] (c.ops.take k)) cells ins links))∧Below W.heap.size W w'):=hide (fun W hW=>by
      have hWw:Below w.heap.size w W:=HBW.out.trans (hW.mono HBW.out.size)
      exact rlays_any W op hkd n _ _ _ _ _ _ _ _ (own_rowN (bel_own HOWN.out hW) (by omega) hrl) (HCE.out.below hWw) (HIN.out.below hWw) (HLK.out.below hWw))
     generalize regsF n cells ins links [] (c.ops.take k)=rg at HSN HOWN HCALL hown hrl
     generalize laysF op n rg cells ins links=lv at HSN HCALL
     obtain ⟨ok,oa,ob,oc⟩:=op
     simp only [OpF.val] at HCALL
     simp only at d0 d1 d2 d3
     have j3:(0:Int)≤(k:Int):=by omega
     have j4:(k:Int)<(c.ops.length:Int):=by omega
     clear hcell c0 c1 c2 c3 hop hkd hbr hown hshR
     go_wp2_with fail
     refine (HCALL.out wr (Below.refl _ _)).mono ?_
     rintro e w5 ⟨rfl,hb5⟩
     have hown5:=bel_own HOWN.out hb5
     have HB5:=hide (HBR.out.trans (hb5.mono HBR.out.size))
     have hs5:=HB5.out.size
     clear hb5 HCALL d0 d1 d2 d3 x0 x1 x2 x3
     go_wp2_with (at_builtin;refine wpList_append_lies _ rfl _ _ _ rfl bx.heap.size 3 i0 _ 1 8 Tryz.underlying34 hi0 hz0 hz1 hz2 rfl (by omega) _ k (iCells rg) rfl (hown5.alloc _) ⟨w5.heap.size,0,none⟩ 1 1 [.int .i64 lv] rfl rfl (World.news_of_block (cs:=#[.int .i64 lv]) (t:=3) (fr:=(0,0)) (heap_alloc_new w5 _)) (by simp [Value.oneCell']) (by omega) (by unfold maxLen;omega) (by omega) (by simp;omega) (w5.heap.size+1) (by simp) ?_;intro gg cap2 w6 hown6 hgrow hat hlt6)
     go_roundw
     case rel=>exact ⟨k+1,by omega,by go_num,by rw [HSN.out,iCells_snoc];exact hown6,(HB5.out.alloc HB5.out.size _).grown hgrow (by simp;omega) (fun j hj=>ownBlock_ge hown5 j hj)⟩
     case measure=>simp [intOf];omega
    ·have ek:k=c.ops.length:=by omega
     subst ek
     have z9:¬ (c.ops.length:Int)<(c.ops.length:Int):=by omega
     rw [List.take_length] at hown hrl
     have HRG:=hide hown
     generalize regsF n cells ins links [] c.ops=rg at HE HRG hown hrl
     have HSR:=hide hshR
     have HRL2:=hide hrl
     clear hown hshR hbr HRL
     rename World=>wq
     go_wp2
     go_loopw [15,19] (fun vo vj wx=>∃ j:Nat,j≤c.out.length∧vj = .int .i64 j∧wx.ownsRow wq.heap.size 3 1 vo j (iCells ((c.out.take j).map (atF rg)))∧Below wq.heap.size wq wx) (fun _ vj _=>c.out.length - (intOf vj).toNat)
     case atStart=>exact ⟨0,Nat.zero_le _,rfl,World.ownsRow_nil _ _ _ _,by first | exact Below.refl _ _ | exact below_drewN (Below.refl _ _) _⟩
     case round=>
      clear x0 x1 x2 x3
      obtain ⟨j,hj,rfl,hown,hbj⟩:=hrel
      have HBX:=hide (HBR.out.trans (hbj.mono HBR.out.size))
      have HBW2:=hide (HBW.out.trans (hbj.mono HBW.out.size))
      obtain ⟨x0,x1,x2,x3⟩:=HC.out wr HBX.out
      have HBJ:=hide hbj
      have hsj:=hbj.size
      by_cases hjl:j<c.out.length
      ·obtain ⟨b,o,rfl,hbl,hcell⟩:=HCU.out (by omega)
       have d0:=(HBW2.out.cell (p:=⟨b,o+j,none⟩) hbl).trans (hcell j hjl)
       have hreg:=HPO.out c.out[j] (List.getElem_mem hjl)
       obtain ⟨t1,t2,t3,t4⟩:=atF_in (l:=rg) (by rw [HRL2.out];exact hreg)
       rw [HRL2.out] at t2
       obtain ⟨gR,rfl,_,hgR⟩:=HSR.out (by omega)
       have HSN:Hid (iCells ((c.out.take (j+1)).map (atF rg))=iCells ((c.out.take j).map (atF rg)) ++ [.int .i64 (atF rg c.out[j])]):=hide (by
        rw [List.take_succ_eq_append_getElem hjl,List.map_append,List.map_singleton,iCells_snoc])
       have e0:wr.cell? ⟨gR,(c.out[j]).toNat,none⟩=some (.int .i64 (atF rg c.out[j])):=by
        rw [hbj.cell (p:=⟨gR,(c.out[j]).toNat,none⟩) hgR,HRG.out.cellAt _ (by omega),iCells_get,List.getElem?_eq_getElem t3,t4];rfl
       obtain ⟨q,hq⟩:∃ q:Nat,c.out[j]=(q:Int):=⟨(c.out[j]).toNat,by omega⟩
       rw [hq] at d0 e0 t1 t2 HSN
       rw [show ((q:Int)).toNat=q by omega] at e0
       generalize atF rg (q:Int)=lv at e0 HSN
       have i1:(0:Int)≤(j:Int):=by omega
       have i2:(j:Int)<(c.out.length:Int):=by omega
       clear hcell hreg t3 t4 hq hbj
       go_wp2_with (at_builtin;refine wpList_append_lies _ rfl _ _ _ rfl wq.heap.size 3 i0 _ 1 8 Tryz.underlying34 hi0 hz0 hz1 hz2 rfl (by omega) _ j (iCells ((c.out.take j).map (atF rg))) rfl (hown.alloc _) ⟨wr.heap.size,0,none⟩ 1 1 [.int .i64 lv] rfl rfl (World.news_of_block (cs:=#[.int .i64 lv]) (t:=3) (fr:=(0,0)) (heap_alloc_new wr _)) (by simp [Value.oneCell']) (by omega) (by unfold maxLen;omega) (by omega) (by simp;omega) (wr.heap.size+1) (by simp) ?_;intro gg cap2 w6 hown6 hgrow hat hlt6)
       go_roundw
       case rel=>exact ⟨j+1,by omega,by go_num,by rw [HSN.out];exact hown6,(HBJ.out.alloc HBJ.out.size _).grown hgrow (by simp;omega) (fun i hi=>ownBlock_ge hown i hi)⟩
       case measure=>simp [intOf];omega
      ·have ej:j=c.out.length:=by omega
       subst ej
       have z8:¬ (c.out.length:Int)<(c.out.length:Int):=by omega
       rw [List.take_length] at hown
       obtain ⟨ao,co,rfl,_⟩:=own_shape hown
       have HOO:=hide hown
       clear hown hbj
       rename World=>wz
       go_wp2
       go_loopw [16,20] (fun vn vj wx=>∃ j:Nat,j≤c.next.length∧vj = .int .i64 j∧wx.ownsRow wz.heap.size 3 1 vn j (iCells ((c.next.take j).map (atF rg)))∧Below wz.heap.size wz wx) (fun _ vj _=>c.next.length - (intOf vj).toNat)
       case atStart=>exact ⟨0,Nat.zero_le _,rfl,World.ownsRow_nil _ _ _ _,by first | exact Below.refl _ _ | exact below_drewN (Below.refl _ _) _⟩
       case round=>
        clear x0 x1 x2 x3
        obtain ⟨j,hj,rfl,hown,hbj⟩:=hrel
        have HBX3:=hide (HBX.out.trans (hbj.mono HBX.out.size))
        have HBW3:=hide (HBW2.out.trans (hbj.mono HBW2.out.size))
        have hbq:Below wq.heap.size wq wr:=HBJ.out.trans (hbj.mono HBJ.out.size)
        obtain ⟨x0,x1,x2,x3⟩:=HC.out wr HBX3.out
        have HBK:=hide hbj
        have hsj2:=hbj.size
        by_cases hjl:j<c.next.length
        ·obtain ⟨b,o,rfl,hbl,hcell⟩:=HCN.out (by omega)
         have d0:=(HBW3.out.cell (p:=⟨b,o+j,none⟩) hbl).trans (hcell j hjl)
         have hreg:=HPN.out c.next[j] (List.getElem_mem hjl)
         obtain ⟨t1,t2,t3,t4⟩:=atF_in (l:=rg) (by rw [HRL2.out];exact hreg)
         rw [HRL2.out] at t2
         obtain ⟨gR,rfl,_,hgR⟩:=HSR.out (by omega)
         have HSN:Hid (iCells ((c.next.take (j+1)).map (atF rg))=iCells ((c.next.take j).map (atF rg)) ++ [.int .i64 (atF rg c.next[j])]):=hide (by
          rw [List.take_succ_eq_append_getElem hjl,List.map_append,List.map_singleton,iCells_snoc])
         have e0:wr.cell? ⟨gR,(c.next[j]).toNat,none⟩=some (.int .i64 (atF rg c.next[j])):=by
          rw [hbq.cell (p:=⟨gR,(c.next[j]).toNat,none⟩) hgR,HRG.out.cellAt _ (by omega),iCells_get,List.getElem?_eq_getElem t3,t4];rfl
         obtain ⟨q,hq⟩:∃ q:Nat,c.next[j]=(q:Int):=⟨(c.next[j]).toNat,by omega⟩
         rw [hq] at d0 e0 t1 t2 HSN
         rw [show ((q:Int)).toNat=q by omega] at e0
         generalize atF rg (q:Int)=lv at e0 HSN
         have i1:(0:Int)≤(j:Int):=by omega
         have i2:(j:Int)<(c.next.length:Int):=by omega
         clear hcell hreg t3 t4 hq hbj hbq
         go_wp2_with (at_builtin;refine wpList_append_lies _ rfl _ _ _ rfl wz.heap.size 3 i0 _ 1 8 Tryz.underlying34 hi0 hz0 hz1 hz2 rfl (by omega) _ j (iCells ((c.next.take j).map (atF rg))) rfl (hown.alloc _) ⟨wr.heap.size,0,none⟩ 1 1 [.int .i64 lv] rfl rfl (World.news_of_block (cs:=#[.int .i64 lv]) (t:=3) (fr:=(0,0)) (heap_alloc_new wr _)) (by simp [Value.oneCell']) (by omega) (by unfold maxLen;omega) (by omega) (by simp;omega) (wr.heap.size+1) (by simp) ?_;intro gg cap2 w6 hown6 hgrow hat hlt6)
         go_roundw
         case rel=>exact ⟨j+1,by omega,by go_num,by rw [HSN.out];exact hown6,(HBK.out.alloc HBK.out.size _).grown hgrow (by simp;omega) (fun i hi=>ownBlock_ge hown i hi)⟩
         case measure=>simp [intOf];omega
        ·have ej:j=c.next.length:=by omega
         subst ej
         have z7:¬ (c.next.length:Int)<(c.next.length:Int):=by omega
         rw [List.take_length] at hown
         have HNN:=hide hown
         have hle1:w.heap.size≤wq.heap.size:=HBW.out.size
         have hle2:w.heap.size≤wz.heap.size:=HBW2.out.size
         clear hown
         go_wp2
         go_ret3
         rw [HE.out]
         refine ⟨_,_,rfl,?_,?_,by simp;omega,by simp;omega,HBW3.out⟩
         ·rw [List.length_map];exact own_wk (bel_own HOO.out HBK.out) hle1
         ·rw [List.length_map];exact own_wk HNN.out hle2
set_option maxHeartbeats 1000000 in
theorem lsame_any (w:World) (va vb:Value) (xs ys:List Int) (ha:RowAt w va xs) (hb:RowAt w vb ys) :
  Calls Tryz.prog 9 #[va,vb] w fun e w'=>e = .returned (.bool (xs == ys))∧Below w.heap.size w w':=by
 obtain ⟨A,C,rfl,hm,hc⟩:=ha
 obtain ⟨A',C',rfl,hm',hc'⟩:=hb
 by_cases hl:xs.length=ys.length
 ·have q1:((xs.length:Int) != (ys.length:Int))=false:=by rw [hl];simp
  have HA:=hide hc
  have HB:=hide hc'
  have HL:=hide hl
  clear hc hc' hl
  go_enter Tryz.func9,Tryz.ntmps9
  go_wp2
  go_loopw [5] (fun vi wr=>∃ m:Nat,m≤xs.length∧vi = .int .i64 m∧Below w.heap.size w wr∧∀ j,j<m→(hx:j<xs.length)→(hy:j<ys.length)→xs[j]=ys[j]) (fun vi _=>xs.length - (intOf vi).toNat)
  case atStart=>exact ⟨0,Nat.zero_le _,rfl,Below.refl _ _,fun j hj=>by omega⟩
  case round=>
   obtain ⟨m,hm,rfl,hbx,hrec⟩:=hrel
   have HRC:=hide hrec
   clear hrec
   by_cases hml:m<xs.length
   ·obtain ⟨b,o,rfl,hb,hr⟩:=HA.out (by omega)
    obtain ⟨b',o',rfl,hb',hr'⟩:=HB.out (by have:=HL.out;omega)
    have hmy:m<ys.length:=by have:=HL.out;omega
    have x1:=(hbx.cell (p:=⟨b,o+m,none⟩) hb).trans (hr m hml)
    have x2:=(hbx.cell (p:=⟨b',o'+m,none⟩) hb').trans (hr' m hmy)
    have j3:(0:Int)≤(m:Int):=by omega
    have j4:(m:Int)<(xs.length:Int):=by omega
    have j5:(m:Int)<(ys.length:Int):=by omega
    by_cases he:xs[m]=ys[m]
    ·have HN:Hid (∀ j,j<m+1→(hx:j<xs.length)→(hy:j<ys.length)→xs[j]=ys[j]):=hide (fun j hj hx hy=>by
      by_cases e:j=m
      ·subst e;exact he
      ·exact HRC.out j (by omega) hx hy)
     have q2:(xs[m] != ys[m])=false:=by rw [he];simp
     generalize xs[m]=u at x1 q2
     generalize ys[m]=v at x2 q2
     clear hr hr' he
     go_wp2_with fail
     go_quiet (fail)
     go_wp2
     go_roundw
     case rel=>exact ⟨m+1,by omega,by go_num,by first | exact hbx | exact below_drewN hbx _,HN.out⟩
     case measure=>simp [intOf];omega
    ·have HN:=hide (row_ne hml hmy he)
     have q2:(xs[m] != ys[m])=true:=by rw [bne_iff_ne];exact he
     generalize xs[m]=u at x1 q2
     generalize ys[m]=v at x2 q2
     clear hr hr' he
     go_wp2_with fail
     go_quiet (fail)
     go_wp2
     go_ret
     exact ⟨by rw [HN.out];rfl,by first | exact hbx | exact below_drewN hbx _⟩
   ·have em:m=xs.length:=by omega
    subst em
    have HN:=hide (row_eq HL.out (fun j hx hy=>HRC.out j hx hx hy))
    have z1:¬ (xs.length:Int)<(xs.length:Int):=by omega
    clear HRC
    go_wp2
    go_ret
    exact ⟨by rw [HN.out];rfl,hbx⟩
 ·have q1:((xs.length:Int) != (ys.length:Int))=true:=by rw [bne_iff_ne];omega
  have HN:Hid ((xs == ys)=false):=hide (by rw [beq_eq_false_iff_ne];rintro rfl;exact hl rfl)
  clear hc hc' hl
  go_enter Tryz.func9,Tryz.ntmps9
  go_wp2
  go_ret
  exact ⟨by rw [HN.out];rfl,Below.refl _ _⟩
set_option maxHeartbeats 1000000 in
theorem lfull_any (w:World) (va:Value) (xs:List Int) (mk:Int) (ha:RowAt w va xs) :
  Calls Tryz.prog 25 #[va,.int .i64 mk] w fun e w'=>e = .returned (.bool (xs.all (· == mk)))∧Below w.heap.size w w':=by
 obtain ⟨A,C,rfl,hm,hc⟩:=ha
 have HA:=hide hc
 clear hc
 go_enter Tryz.func25,Tryz.ntmps25
 go_wp2
 go_loopw [5] (fun vi wr=>∃ m:Nat,m≤xs.length∧vi = .int .i64 m∧Below w.heap.size w wr∧∀ j,j<m→(hx:j<xs.length)→xs[j]=mk) (fun vi _=>xs.length - (intOf vi).toNat)
 case atStart=>exact ⟨0,Nat.zero_le _,rfl,Below.refl _ _,fun j hj=>by omega⟩
 case round=>
  obtain ⟨m,hm,rfl,hbx,hrec⟩:=hrel
  have HRC:=hide hrec
  clear hrec
  by_cases hml:m<xs.length
  ·obtain ⟨b,o,rfl,hb,hr⟩:=HA.out (by omega)
   have x1:=(hbx.cell (p:=⟨b,o+m,none⟩) hb).trans (hr m hml)
   have j3:(0:Int)≤(m:Int):=by omega
   have j4:(m:Int)<(xs.length:Int):=by omega
   by_cases he:xs[m]=mk
   ·have HN:Hid (∀ j,j<m+1→(hx:j<xs.length)→xs[j]=mk):=hide (fun j hj hx=>by
     by_cases e:j=m
     ·subst e;exact he
     ·exact HRC.out j (by omega) hx)
    have q2:(xs[m] != mk)=false:=by rw [he];simp
    generalize xs[m]=u at x1 q2
    clear hr he
    go_wp2
    go_roundw
    case rel=>exact ⟨m+1,by omega,by go_num,by first | exact hbx | exact below_drewN hbx _,HN.out⟩
    case measure=>simp [intOf];omega
   ·have HN:Hid (xs.all (· == mk)=false):=hide (by rw [List.all_eq_false];exact ⟨xs[m],List.getElem_mem hml,by simpa using he⟩)
    have q2:(xs[m] != mk)=true:=by rw [bne_iff_ne];exact he
    generalize xs[m]=u at x1 q2
    clear hr he
    go_wp2
    go_ret
    exact ⟨by rw [HN.out];rfl,by first | exact hbx | exact below_drewN hbx _⟩
  ·have em:m=xs.length:=by omega
   subst em
   have HN:Hid (xs.all (· == mk)=true):=hide (by
    rw [List.all_eq_true]
    intro x hx
    obtain ⟨j,hj,rfl⟩:=List.getElem_of_mem hx
    rw [HRC.out j hj hj];simp)
   have z1:¬ (xs.length:Int)<(xs.length:Int):=by omega
   clear HRC
   go_wp2
   go_ret
   exact ⟨by rw [HN.out];rfl,hbx⟩
end Go.Proofs.YtecegaflhdgfaaaGreat
namespace Go.Proofs.YtecegaflhdgfaaaGreat
open Go.RowKit
def AllM (w:World) (K:Nat→Prop) (v:Value) (n:Nat) (mk:Int):Prop:=
 ∃ (A:Option Addr) (C:Nat),v = .slice A n C∧n≤35184372088832∧(0<n→∃ b o,A=some ⟨b,o,none⟩∧K b∧b<w.heap.size∧∀ c,c<n→w.cell? ⟨b,o+c,none⟩=some (.int .i64 mk))
theorem AllM.row {w:World}{K:Nat→Prop}{v:Value}{n:Nat}{mk:Int} (h:AllM w K v n mk):RowAt w v (List.replicate n mk):=by
 obtain ⟨A,C,rfl,hm,hc⟩:=h
 refine ⟨A,C,by rw [List.length_replicate],by rw [List.length_replicate];exact hm,fun hp=>?_⟩
 rw [List.length_replicate] at hp
 obtain ⟨b,o,h1,_,h3,h4⟩:=hc hp
 exact ⟨b,o,h1,h3,fun c hc=>by rw [List.getElem_replicate];exact h4 c (by simpa using hc)⟩
theorem AllM.keep {w w':World}{K K':Nat→Prop}{v:Value}{n:Nat}{mk:Int} (h:AllM w K v n mk) (hs:w.heap.size≤w'.heap.size) (hk:∀ b,b<w.heap.size→K b→K' b)
  (hc:∀ b,b<w.heap.size→K b→∀ c,w.cell? ⟨b,c,none⟩=some (.int .i64 mk)→w'.cell? ⟨b,c,none⟩=some (.int .i64 mk)):AllM w' K' v n mk:=by
 obtain ⟨A,C,rfl,hm,h⟩:=h
 refine ⟨A,C,rfl,hm,fun hp=>?_⟩
 obtain ⟨b,o,h1,h2,h3,h4⟩:=h hp
 exact ⟨b,o,h1,hk b h3 h2,Nat.lt_of_lt_of_le h3 hs,fun c hcc=>hc b h3 h2 _ (h4 c hcc)⟩
theorem AllM.below {w w':World}{K:Nat→Prop}{v:Value}{n:Nat}{mk:Int} (h:AllM w K v n mk) (hb:Below w.heap.size w w'):AllM w' K v n mk:=
 h.keep hb.size (fun _ _ hk=>hk) (fun b hb' _ c hc=>(hb.cell (p:=⟨b,c,none⟩) hb').trans hc)
theorem grown_cell {w w':World}{row:Option Nat} (h:w.grownBy w' row) {b c:Nat} (hb:b<w.heap.size) (hr:row≠some b):w'.cell? ⟨b,c,none⟩=w.cell? ⟨b,c,none⟩:=
 World.cell?_of_block (w:=w) (a:=⟨b,c,none⟩) (h.block b hb (Ne.symm hr))
theorem own_allM {w:World}{base:Nat}{e:TypeId}{v:Value}{n:Nat}{mk:Int} (hn:n≤35184372088832) (h:w.ownsRow base e 1 v n (List.replicate n (.int .i64 mk))) (K:Nat→Prop) (hK:∀ b,v.ownBlock=some b→K b):AllM w K v n mk:=by
 rcases h.2 with ⟨rfl,rfl⟩ | ⟨g,cap,cur,rfl,hb,hg,h1,h2,h3,h4⟩
 ·exact ⟨none,0,rfl,hn,fun hp=>by omega⟩
 ·refine ⟨some ⟨g,0,none⟩,cap,rfl,hn,fun hp=>⟨g,0,rfl,hK g rfl,(Array.getElem?_eq_some_iff.1 hg).1,fun c hc=>?_⟩⟩
  rw [h.cellAt (0+c) (by omega),List.getElem?_replicate,if_pos (by omega)]
theorem setCells_block {b:Nat}:∀ (vs:List Value) (o:Nat) (w:World) (cs:Array Value) (t:TypeId),w.heap[b]? = some (.cells cs t (0,0))→
  ∃ cs',(w.setCells b o vs).heap[b]? = some (.cells cs' t (0,0))∧cs'.size=cs.size∧cs'.toList.take o=cs.toList.take o∧(w.setCells b o vs).heap.size=w.heap.size∧(∀ k,k≠b→(w.setCells b o vs).heap[k]? = w.heap[k]?)∧(w.setCells b o vs).os=w.os∧(w.setCells b o vs).tape=w.tape∧(w.setCells b o vs).output=w.output:=by
 intro vs
 induction vs with
 | nil=>intro o w cs t h;exact ⟨cs,h,rfl,rfl,rfl,fun _ _=>rfl,rfl,rfl,rfl⟩
 | cons v r ih=>
  intro o w cs t h
  obtain ⟨cs',h1,h2,h3,h4,h5,h6,h7,h8⟩:=ih (o+1) (w.setCell ⟨b,o,none⟩ v) (cs.setIfInBounds o v) t (heap_setCell_same w b o cs t v h)
  refine ⟨cs',h1,by simpa using h2,?_,by rw [World.setCells,h4];simp,fun k hk=>(h5 k hk).trans (heap_setCell_other w ⟨b,o,none⟩ k v hk),h6,h7,h8⟩
  have e:cs'.toList.take o=(cs'.toList.take (o+1)).take o:=by rw [List.take_take,Nat.min_eq_left (by omega)]
  rw [e,h3,List.take_take,Nat.min_eq_left (by omega),Array.toList_setIfInBounds,List.take_set_of_le (by omega)]
theorem append_marks {P:Program} (w:World) {ops:Array Oper}{rest:List Oper}{o:Oper}{a:Act}{Q:Exit→Act→World→Prop}
  (hg:o.guard=none) (s x:Operand) (t:TypeId) (hop:o.op=Op.call { callee:=Callee.builtin Builtin.append,args:=#[s,x],argTypes:=#[t,t] })
  (e:TypeId) (i:TypeInfo) (z:Value) (h1:P.underlying t=some (.slice e)) (h2:P.info? e=some i) (h3:i.zero=some z) (h4:i.size=1) (h5:i.bytes=8) (h6:z.cells.size=1)
  (base n m:Nat) (mk:Int) (v:Value) (hs:a.eval s=v) (hown:w.ownsRow base e 1 v n (List.replicate n (.int .i64 mk)))
  (ad:Addr) (c:Nat) (hx:a.eval x = .slice (some ad) m c) (hc:∀ j,j<m→w.cell? (ad.add j)=some (.int .i64 mk)) (hm:0<m) (hnm:n+m≤1000000)
  (h:∀ v' w',w'.ownsRow base e 1 v n (List.replicate n (.int .i64 mk))→w.grownBy w' v.ownBlock→(∀ b c,w.cell? ⟨b,c,none⟩=some (.int .i64 mk)→w'.cell? ⟨b,c,none⟩=some (.int .i64 mk))→
    AllM w' (fun b=>v.ownBlock=some b∨w.heap.size≤b) v' (n+m) mk→(∃ A C,v' = .slice A (n+m) C)→wpList P ops Q rest (a.put o.dst v') w') :
  wpList P ops Q (o :: rest) a w:=by
 have news:∀ j u,(List.replicate m (Value.int .i64 mk))[j]? = some u→w.cell? (ad.add j)=some u:=fun j u hj=>by
  rw [List.getElem?_replicate] at hj
  split at hj
  ·cases hj;exact hc j (by assumption)
  ·cases hj
 have one:∀ u∈List.replicate m (Value.int .i64 mk),u.oneCell'=true:=fun u hu=>by rw [(List.mem_replicate.1 hu).2];rfl
 have rep:List.replicate n (Value.int .i64 mk) ++ List.replicate m (.int .i64 mk)=List.replicate (n+m) (.int .i64 mk):=List.replicate_append_replicate
 have big:n+m≤maxLen:=by unfold maxLen;omega
 have grow:∀ v' w',w'.ownsRow w.heap.size e 1 v' (n+m) (List.replicate n (.int .i64 mk) ++ List.replicate m (.int .i64 mk))→w.grownBy w' none→wpList P ops Q rest (a.put o.dst v') w':=fun v' w' hown' hgr=>by
  rw [rep] at hown'
  obtain ⟨A,C,hv',_⟩:=own_shape hown'
  refine h v' w' (hown.kept hgr ?_) ⟨hgr.os,hgr.tape,hgr.output,hgr.size,fun k hk _=>hgr.block k hk (by simp)⟩ (fun b c hcell=>?_) (own_allM (by omega) hown' _ (fun b hb=>.inr (hown'.lt b hb).1)) ⟨A,C,hv'⟩
  ·cases v.ownBlock with
   | none=>exact .inl rfl
   | some k=>exact .inr (by simp)
  ·rw [grown_cell hgr (World.block_lt_of_cell? _ _ hcell) (by simp)];exact hcell
 rcases hown.2 with ⟨rfl,rfl⟩ | ⟨g,cap,cur,rfl,hb,hgc,hnc,hcm,hcs,htake⟩
 ·exact wpList_append_grows w hg s x t hop e i z 1 8 h1 h2 h3 h4 h5 h6 (by omega) none 0 0 [] hs (fun _=>⟨rfl,rfl⟩) rfl (fun b hb=>by cases hb) ad m c (List.replicate m (.int .i64 mk)) hx (by simp) news one (by omega) big (by omega) (fun v' w' ho hgr=>grow v' w' (by simpa using ho) hgr)
 ·refine wpList_append_arg w hg s x t hop e i z 1 8 h1 h2 h3 h4 h5 h6 (by omega) g 0 n cap (List.replicate n (.int .i64 mk)) hs (by simp) (fun j u hj=>?_) ad m c (List.replicate m (.int .i64 mk)) hx (by simp) news one ?_ big (by omega) ?_ (fun _ v' w' ho hgr=>grow v' w' ho hgr)
  ·rw [Nat.zero_add,hown.cellAt j (by have:=(List.getElem?_eq_some_iff.1 hj).1;simpa using this)];exact hj
  ·intro hr j hj
   rw [List.length_replicate] at hj
   refine ⟨?_,hown.frozenAt _⟩
   rw [cell_of_row w g _ _ _ _ hgc,Array.getElem?_eq_getElem (by omega)]
   rfl
  ·intro hr
   obtain ⟨cs',k1,k2,k3,k4,k5,k6,k7,k8⟩:=setCells_block (List.replicate m (Value.int .i64 mk)) (0+n * 1) w cur e hgc
   have hin:∀ j,j<m→(w.setCells g (0+n * 1) (List.replicate m (Value.int .i64 mk))).cell? ⟨g,0+n * 1+j,none⟩=some (.int .i64 mk):=fun j hj=>by
    rw [World.cell?_setCells_in g _ _ w (fun j hj=>by rw [List.length_replicate] at hj;rw [cell_of_row w g _ _ _ _ hgc,Array.getElem?_eq_getElem (by omega)];rfl) j (by simpa using hj),List.getElem_replicate]
   have keep:∀ b c,w.cell? ⟨b,c,none⟩=some (.int .i64 mk)→(w.setCells g (0+n * 1) (List.replicate m (Value.int .i64 mk))).cell? ⟨b,c,none⟩=some (.int .i64 mk):=fun b c hcell=>by
    by_cases hh:b=g∧0+n * 1≤c∧c<0+n * 1+m
    ·obtain ⟨rfl,hc1,hc2⟩:=hh
     have:=hin (c - (0+n * 1)) (by omega)
     rwa [show 0+n * 1+(c - (0+n * 1))=c by omega] at this
    ·rw [World.cell?_setCells_out g _ _ w ⟨b,c,none⟩ (fun hb' _=>by
      have hb'':b=g:=hb'
      show c<0+n * 1∨0+n * 1+(List.replicate m (Value.int .i64 mk)).length≤c
      rw [List.length_replicate];omega)]
     exact hcell
   refine h _ _ ⟨by simp,.inr ⟨g,cap,cs',rfl,hb,k1,hnc,hcm,by rw [k2];exact hcs,?_⟩⟩ ⟨k6,k7,k8,by rw [k4];exact Nat.le_refl _,fun k _ hk=>k5 k (fun e=>hk (by rw [e];rfl))⟩ keep ?_ ⟨_,_,rfl⟩
   ·rw [Nat.zero_add] at k3
    rw [k3];exact htake
   ·refine ⟨some ⟨g,0,none⟩,cap,rfl,by omega,fun hp=>⟨g,0,rfl,.inl rfl,by rw [k4];exact (Array.getElem?_eq_some_iff.1 hgc).1,fun c hc'=>?_⟩⟩
    by_cases hcn:c<n
    ·refine keep g (0+c) ?_
     rw [hown.cellAt (0+c) (by omega),List.getElem?_replicate,if_pos (by omega)]
    ·have:=hin (c - n) (by omega)
     rwa [show 0+n * 1+(c - n)=0+c by omega] at this
theorem marks_block (w:World) (cs:Array Value) (t:TypeId) (m:Nat) (mk:Int) (h:cs.toList=List.replicate m (.int .i64 mk)):∀ j,j<m→(w.alloc (.cells cs t)).cell? ((⟨w.heap.size,0,none⟩:Addr).add j)=some (.int .i64 mk):=by
 intro j hj
 refine World.news_of_block (cs:=cs) (t:=t) (fr:=(0,0)) (heap_alloc_new w _) j _ ?_
 rw [h,List.getElem?_replicate,if_pos hj]
theorem grown_trans {w w1 w2:World}{row:Option Nat} (h1:w.grownBy w1 row) (h2:w1.grownBy w2 row):w.grownBy w2 row:=
 ⟨h2.os.trans h1.os,h2.tape.trans h1.tape,h2.output.trans h1.output,Nat.le_trans h1.size h2.size,fun k hk hne=>(h2.block k (Nat.lt_of_lt_of_le hk h1.size) hne).trans (h1.block k hk hne)⟩
theorem grown_alloc (w:World) (o:Obj) (row:Option Nat):w.grownBy (w.alloc o) row:=⟨rfl,rfl,rfl,by simp,fun k hk _=>Below.heap_alloc _ _ _ hk⟩
theorem grown_set {w w1:World}{row:Option Nat} (h:w.grownBy w1 row) {p:Addr} (hp:w.heap.size≤p.block) (u:Value):w.grownBy (w1.setCell p u) row:=
 ⟨h.os,h.tape,h.output,by simpa using h.size,fun k hk hne=>(Below.heap_setCell _ _ _ _ (by omega)).trans (h.block k hk hne)⟩
end Go.Proofs.YtecegaflhdgfaaaGreat
namespace Go.Proofs.YtecegaflhdgfaaaGreat
open Go.RowKit
attribute [local go_sem ↓] Go.wp_at_zero Go.wp_at_succ
structure OwnV where
 a:Value
 b:Value
 c:Value
 d:Value
 n:Nat
 m:Int
abbrev OwnV.val (o:OwnV):Value:=.agg #[o.a,o.b,o.c,o.d,.int .i64 o.m]
def OwnV.cells (o:OwnV):List Value:=[o.a,o.b,o.c,o.d,.int .i64 o.m]
structure OwnAt (w:World) (K:Nat→Prop) (o:OwnV):Prop where
 a:AllM w K o.a o.n o.m
 b:AllM w K o.b (o.n+1) o.m
 c:AllM w K o.c (o.n+2) o.m
 d:AllM w K o.d (o.n+6) o.m
theorem OwnAt.keep {w w':World}{K K':Nat→Prop}{o:OwnV} (h:OwnAt w K o) (hs:w.heap.size≤w'.heap.size) (hk:∀ b,b<w.heap.size→K b→K' b)
  (hc:∀ b,b<w.heap.size→K b→∀ c,w.cell? ⟨b,c,none⟩=some (.int .i64 o.m)→w'.cell? ⟨b,c,none⟩=some (.int .i64 o.m)):OwnAt w' K' o:=
 ⟨h.a.keep hs hk hc,h.b.keep hs hk hc,h.c.keep hs hk hc,h.d.keep hs hk hc⟩
theorem OwnAt.below {w w':World}{K:Nat→Prop}{o:OwnV} (h:OwnAt w K o) (hb:Below w.heap.size w w'):OwnAt w' K o:=
 ⟨h.a.below hb,h.b.below hb,h.c.below hb,h.d.below hb⟩
theorem set_mark {xs:List Int}{m:Nat}{mk:Int} (h:m<xs.length):((List.replicate m (Value.int .i64 mk)) ++ ((xs.map fun x=>Value.int .i64 x).drop m)).set m (.int .i64 mk)=(List.replicate (m+1) (Value.int .i64 mk)) ++ ((xs.map fun x=>Value.int .i64 x).drop (m+1)):=by
 rw [List.set_append_right _ _ (by simp),List.length_replicate,Nat.sub_self,List.drop_eq_getElem_cons (by simpa using h),List.set_cons_zero,List.replicate_succ',List.append_assoc]
 rfl
theorem box3 {wr w1 w2 w3:World}{b:Nat}{row:Option Nat}{o1 o2 o3 o:Obj} (hne:some b≠row) (hlt:b<wr.heap.size) (hb:wr.heap[b]? = some o) (h1:(wr.alloc o1).grownBy w1 row) (h2:(w1.alloc o2).grownBy w2 row) (h3:(w2.alloc o3).grownBy w3 row):w3.heap[b]? = some o:=by
 have s1:=h1.size
 have s2:=h2.size
 simp at s1 s2
 rw [h3.block b (by simp;omega) hne,Below.heap_alloc _ _ _ (by omega),h2.block b (by simp;omega) hne,Below.heap_alloc _ _ _ (by omega),h1.block b (by simp;omega) hne,Below.heap_alloc _ _ _ hlt]
 exact hb
set_option maxHeartbeats 2000000 in
set_option maxRecDepth 100000 in
theorem lown_any (w:World) (B:Nat) (v:Value) (xs:List Int) (mk:Int) (h:w.ownsRow B 3 1 v xs.length (xs.map fun x=>.int .i64 x)) (hn:xs.length≤100000) :
  Calls Tryz.prog 10 #[v,.int .i64 mk] w fun e w'=>∃ o:OwnV,e = .returned o.val∧o.a=v∧o.n=xs.length∧o.m=mk∧OwnAt w' (fun b=>v.ownBlock=some b∨w.heap.size≤b) o∧w.grownBy w' v.ownBlock:=by
 obtain ⟨i0,hi0,hz0,hz1,hz2⟩:=info_parts Tryz.infoInt
 obtain ⟨A,C,rfl,hsh⟩:=own_shape h
 have HW:=hide h
 have HSH:=hide hsh
 clear h hsh
 go_enter Tryz.func10,Tryz.ntmps10
 go_wp2
 go_loopw [5] (fun vi wr=>∃ m:Nat,m≤xs.length∧vi = .int .i64 m∧wr.ownsRow B 3 1 (.slice A xs.length C) xs.length ((List.replicate m (Value.int .i64 mk)) ++ ((xs.map fun x=>Value.int .i64 x).drop m))∧w.grownBy wr (Value.slice A xs.length C).ownBlock∧w.heap.size<wr.heap.size∧wr.heap[w.heap.size]? = some (.cells #[.slice none 0 0,.slice none 0 0,.slice none 0 0,.slice none 0 0,.int .i64 0] 36)) (fun vi _=>xs.length - (intOf vi).toNat)
 case atStart=>exact ⟨0,Nat.zero_le _,rfl,by simpa using HW.out.alloc _,grown_alloc _ _ _,by simp,heap_alloc_new w _⟩
 case round=>
  obtain ⟨m,hm,rfl,hown,hgr,hlt,hbx⟩:=hrel
  have HBX:=hide hbx
  have HNE:Hid ((Value.slice A xs.length C).ownBlock≠some w.heap.size):=hide (fun e=>by have:=(HW.out.lt _ e).2;omega)
  have HO:=hide hown
  have HG:=hide hgr
  clear hown hgr hbx
  by_cases hml:m<xs.length
  ·obtain ⟨g,rfl,_,hgl⟩:=HSH.out (by omega)
   have hc:=HO.out.cellAt m (by omega)
   rw [List.getElem?_append_right (by simp),List.length_replicate,Nat.sub_self,List.getElem?_drop,List.getElem?_map,Nat.add_zero,List.getElem?_eq_getElem hml] at hc
   have hf:=HO.out.frozenAt m
   have j3:(0:Int)≤(m:Int):=by omega
   have j4:(m:Int)<(xs.length:Int):=by omega
   obtain ⟨hs1,hs2⟩:=HO.out.stored m (.int .i64 mk)
   rw [set_mark hml] at hs1
   have HS1:=hide hs1
   have HS2:=hide hs2
   simp only [Option.map_some] at hc
   generalize xs[m]=u at hc
   clear hs1 hs2
   go_wp2
   go_roundw
   case rel=>exact ⟨m+1,by omega,by go_num,by first | exact HS1.out | exact HS1.out.drew,⟨HS2.out.os.trans HG.out.os,HS2.out.tape.trans HG.out.tape,HS2.out.output.trans HG.out.output,Nat.le_trans HG.out.size HS2.out.size,fun k hk hne=>(HS2.out.block k (Nat.lt_of_lt_of_le hk HG.out.size) hne).trans (HG.out.block k hk hne)⟩,by simpa using hlt,(HS2.out.block w.heap.size hlt (Ne.symm HNE.out)).trans HBX.out⟩
   case measure=>simp [intOf];omega
  ·have em:m=xs.length:=by omega
   subst em
   have z1:¬ (xs.length:Int)<(xs.length:Int):=by omega
   have hown0:=HO.out
   rw [List.drop_of_length_le (by simp),List.append_nil] at hown0
   have hsz:=HG.out.size
   clear HO HW HSH
   go_wp2_with (at_builtin;first
    | (refine append_marks _ rfl _ _ _ rfl 3 i0 _ Tryz.underlying34 hi0 hz0 hz1 hz2 rfl B xs.length 1 mk _ rfl (hown0.alloc _) ⟨wr.heap.size,0,none⟩ 1 rfl (marks_block _ _ _ 1 mk rfl) (by omega) (by omega) ?_;intro v1 w1 ho1 hg1 hk1 ha1 hs1;obtain ⟨A1,C1,rfl⟩:=hs1)
    | (refine append_marks _ rfl _ _ _ rfl 3 i0 _ Tryz.underlying34 hi0 hz0 hz1 hz2 rfl B xs.length 2 mk _ rfl (ho1.alloc _) ⟨w1.heap.size,0,none⟩ 2 rfl (marks_block _ _ _ 2 mk rfl) (by omega) (by omega) ?_;intro v2 w2 ho2 hg2 hk2 ha2 hs2;obtain ⟨A2,C2,rfl⟩:=hs2)
    | (refine append_marks _ rfl _ _ _ rfl 3 i0 _ Tryz.underlying34 hi0 hz0 hz1 hz2 rfl B xs.length 6 mk _ rfl (ho2.alloc _) ⟨w2.heap.size,0,none⟩ 6 rfl (marks_block _ _ _ 6 mk rfl) (by omega) (by omega) ?_;intro v3 w3 ho3 hg3 hk3 ha3 hs3;obtain ⟨A3,C3,rfl⟩:=hs3;have hb3:=box3 (Ne.symm HNE.out) hlt HBX.out hg1 hg2 hg3;have c0:=cell_of_row w3 w.heap.size 0 _ _ _ hb3;have c1:=cell_of_row w3 w.heap.size 1 _ _ _ hb3;have c2:=cell_of_row w3 w.heap.size 2 _ _ _ hb3;have c3:=cell_of_row w3 w.heap.size 3 _ _ _ hb3;have c4:=cell_of_row w3 w.heap.size 4 _ _ _ hb3;have f0:=frozen_of_row w3 w.heap.size 0 _ _ hb3;have f1:=frozen_of_row w3 w.heap.size 1 _ _ hb3;have f2:=frozen_of_row w3 w.heap.size 2 _ _ hb3;have f3:=frozen_of_row w3 w.heap.size 3 _ _ hb3;have f4:=frozen_of_row w3 w.heap.size 4 _ _ hb3))
   have hs1:=hg1.size
   have hs2:=hg2.size
   have hs3:=hg3.size
   simp at hs1 hs2 hs3
   have hal:∀ (W:World) (o:Obj) (b c:Nat),b<W.heap.size→(W.alloc o).cell? ⟨b,c,none⟩=W.cell? ⟨b,c,none⟩:=fun W o b c h=>World.cell?_alloc_past _ _ _ h
   have hw:∀ b,b<w3.heap.size→((Value.slice A xs.length C).ownBlock=some b∨wr.heap.size≤b)→b≠w.heap.size:=fun b _ hb e=>by
    rcases hb with hb | hb
    ·rw [e] at hb;exact HNE.out hb
    ·omega
   have k0:AllM wr (fun b=>(Value.slice A xs.length C).ownBlock=some b∨wr.heap.size≤b) (.slice A xs.length C) xs.length mk:=own_allM (by omega) hown0 _ (fun b hb=>.inl hb)
   have up1:∀ v n,AllM wr (fun b=>(Value.slice A xs.length C).ownBlock=some b∨wr.heap.size≤b) v n mk→AllM w1 (fun b=>(Value.slice A xs.length C).ownBlock=some b∨wr.heap.size≤b) v n mk:=fun v n h=>h.keep (by omega) (fun _ _ h=>h) (fun b hb _ c hc=>hk1 b c ((hal _ _ b c hb).trans hc))
   have up2:∀ v n,AllM w1 (fun b=>(Value.slice A xs.length C).ownBlock=some b∨wr.heap.size≤b) v n mk→AllM w2 (fun b=>(Value.slice A xs.length C).ownBlock=some b∨wr.heap.size≤b) v n mk:=fun v n h=>h.keep (by omega) (fun _ _ h=>h) (fun b hb _ c hc=>hk2 b c ((hal _ _ b c hb).trans hc))
   have up3:∀ v n,AllM w2 (fun b=>(Value.slice A xs.length C).ownBlock=some b∨wr.heap.size≤b) v n mk→AllM w3 (fun b=>(Value.slice A xs.length C).ownBlock=some b∨wr.heap.size≤b) v n mk:=fun v n h=>h.keep (by omega) (fun _ _ h=>h) (fun b hb _ c hc=>hk3 b c ((hal _ _ b c hb).trans hc))
   have l1:AllM w1 (fun b=>(Value.slice A xs.length C).ownBlock=some b∨wr.heap.size≤b) (.slice A1 (xs.length+1) C1) (xs.length+1) mk:=ha1.keep (Nat.le_refl _) (fun b _ h=>h.imp id (fun h=>by simp at h;omega)) (fun _ _ _ _ h=>h)
   have l2:AllM w2 (fun b=>(Value.slice A xs.length C).ownBlock=some b∨wr.heap.size≤b) (.slice A2 (xs.length+2) C2) (xs.length+2) mk:=ha2.keep (Nat.le_refl _) (fun b _ h=>h.imp id (fun h=>by simp at h;omega)) (fun _ _ _ _ h=>h)
   have l3:AllM w3 (fun b=>(Value.slice A xs.length C).ownBlock=some b∨wr.heap.size≤b) (.slice A3 (xs.length+6) C3) (xs.length+6) mk:=ha3.keep (Nat.le_refl _) (fun b _ h=>h.imp id (fun h=>by simp at h;omega)) (fun _ _ _ _ h=>h)
   have q0:=up3 _ _ (up2 _ _ (up1 _ _ k0))
   have q1:=up3 _ _ (up2 _ _ l1)
   have q2:=up3 _ _ l2
   have hgr:w.grownBy w3 (Value.slice A xs.length C).ownBlock:=grown_trans (grown_trans (grown_trans HG.out (grown_trans (grown_alloc _ _ _) hg1)) (grown_trans (grown_alloc _ _ _) hg2)) (grown_trans (grown_alloc _ _ _) hg3)
   have fin:∀ v n u0 u1 u2 u3 u4,AllM w3 (fun b=>(Value.slice A xs.length C).ownBlock=some b∨wr.heap.size≤b) v n mk→AllM (((((w3.setCell ⟨w.heap.size,0,none⟩ u0).setCell ⟨w.heap.size,1,none⟩ u1).setCell ⟨w.heap.size,2,none⟩ u2).setCell ⟨w.heap.size,3,none⟩ u3).setCell ⟨w.heap.size,4,none⟩ u4) (fun b=>(Value.slice A xs.length C).ownBlock=some b∨w.heap.size≤b) v n mk:=fun v n u0 u1 u2 u3 u4 h=>by
    refine h.keep (by simp) (fun b _ h=>h.imp id (fun h=>by omega)) (fun b hb hK c hc=>?_)
    have hne:=hw b hb hK
    rw [World.cell?_setCell_other _ _ _ _ (by intro e;exact hne (congrArg Addr.block e).symm),World.cell?_setCell_other _ _ _ _ (by intro e;exact hne (congrArg Addr.block e).symm),World.cell?_setCell_other _ _ _ _ (by intro e;exact hne (congrArg Addr.block e).symm),World.cell?_setCell_other _ _ _ _ (by intro e;exact hne (congrArg Addr.block e).symm),World.cell?_setCell_other _ _ _ _ (by intro e;exact hne (congrArg Addr.block e).symm)]
    exact hc
   refine bodyPost_ret (v:=.agg #[.slice A xs.length C,.slice A1 (xs.length+1) C1,.slice A2 (xs.length+2) C2,.slice A3 (xs.length+6) C3,.int .i64 mk]) (by simp [results,Tryz.results10,go_sem,c0,c1,c2,c3,c4]) rfl ?_
   exact ⟨⟨.slice A xs.length C,.slice A1 (xs.length+1) C1,.slice A2 (xs.length+2) C2,.slice A3 (xs.length+6) C3,xs.length,mk⟩,rfl,rfl,rfl,rfl,⟨fin _ _ _ _ _ _ _ q0,fin _ _ _ _ _ _ _ q1,fin _ _ _ _ _ _ _ q2,fin _ _ _ _ _ _ _ l3⟩,grown_set (grown_set (grown_set (grown_set (grown_set hgr (Nat.le_refl _) _) (Nat.le_refl _) _) (Nat.le_refl _) _) (Nat.le_refl _) _) (Nat.le_refl _) _⟩
set_option maxHeartbeats 1000000 in
theorem lholds_any (w:World) (K:Nat→Prop) (o:OwnV) (h:OwnAt w K o) :
  Calls Tryz.prog 11 #[o.val] w fun e w'=>e = .returned (.bool true)∧Below w.heap.size w w':=by
 obtain ⟨a,b,c,d,n,mk⟩:=o
 have hal:∀ k,(List.replicate k mk).all (· == mk)=true:=fun k=>by rw [List.all_eq_true];intro x hx;rw [(List.mem_replicate.1 hx).2];simp
 have H1:=hide (fun W (hW:Below w.heap.size w W)=>lfull_any W a _ mk (h.a.below hW).row)
 have H2:=hide (fun W (hW:Below w.heap.size w W)=>lfull_any W b _ mk (h.b.below hW).row)
 have H3:=hide (fun W (hW:Below w.heap.size w W)=>lfull_any W c _ mk (h.c.below hW).row)
 have H4:=hide (fun W (hW:Below w.heap.size w W)=>lfull_any W d _ mk (h.d.below hW).row)
 simp only [hal] at H1 H2 H3 H4
 obtain ⟨A1,C1,e1,_⟩:=h.a
 obtain ⟨A2,C2,e2,_⟩:=h.b
 obtain ⟨A3,C3,e3,_⟩:=h.c
 obtain ⟨A4,C4,e4,_⟩:=h.d
 simp only at e1 e2 e3 e4
 subst e1 e2 e3 e4
 clear h hal
 obtain ⟨bx,hbx⟩:∃ bx,bx=w.alloc (.cells #[.slice A1 n C1,.slice A2 (n+1) C2,.slice A3 (n+2) C3,.slice A4 (n+6) C4,.int .i64 mk] 36):=⟨_,rfl⟩
 have HB0:Hid (Below w.heap.size w bx):=hide (by rw [hbx];exact (Below.refl _ _).alloc (Nat.le_refl _) _)
 have HSZ:Hid (w.heap.size<bx.heap.size):=hide (by rw [hbx];simp)
 have HC:Hid (∀ W,Below bx.heap.size bx W→W.cell? ⟨w.heap.size,1,none⟩=some (.slice A2 (n+1) C2)∧W.cell? ⟨w.heap.size,2,none⟩=some (.slice A3 (n+2) C3)∧W.cell? ⟨w.heap.size,3,none⟩=some (.slice A4 (n+6) C4)∧W.cell? ⟨w.heap.size,4,none⟩=some (.int .i64 mk)):=hide (fun W hW=>by
  have hN:W.heap[w.heap.size]? = some (.cells #[.slice A1 n C1,.slice A2 (n+1) C2,.slice A3 (n+2) C3,.slice A4 (n+6) C4,.int .i64 mk] 36):=(hW.block w.heap.size HSZ.out).trans (by rw [hbx];exact heap_alloc_new w _)
  exact ⟨by rw [cell_of_row W _ 1 _ _ _ hN];rfl,by rw [cell_of_row W _ 2 _ _ _ hN];rfl,by rw [cell_of_row W _ 3 _ _ _ hN];rfl,by rw [cell_of_row W _ 4 _ _ _ hN];rfl⟩)
 go_enter Tryz.func11,Tryz.ntmps11
 go_wp2_with fail
 rw [← hbx]
 refine (H1.out bx HB0.out).mono ?_
 rintro e w1 ⟨rfl,hb1⟩
 obtain ⟨x1,x2,x3,x4⟩:=HC.out w1 hb1
 have HB1:=hide hb1
 clear hb1
 go_wp2_with fail
 refine (H2.out w1 (HB0.out.trans (HB1.out.mono HB0.out.size))).mono ?_
 rintro e w2 ⟨rfl,hb2⟩
 have HB2:=hide (HB1.out.trans (hb2.mono HB1.out.size))
 clear hb2 x1 x2 x3 x4
 obtain ⟨x1,x2,x3,x4⟩:=HC.out w2 HB2.out
 go_wp2_with fail
 refine (H3.out w2 (HB0.out.trans (HB2.out.mono HB0.out.size))).mono ?_
 rintro e w3 ⟨rfl,hb3⟩
 have HB3:=hide (HB2.out.trans (hb3.mono HB2.out.size))
 clear hb3 x1 x2 x3 x4
 obtain ⟨x1,x2,x3,x4⟩:=HC.out w3 HB3.out
 go_wp2_with fail
 refine (H4.out w3 (HB0.out.trans (HB3.out.mono HB0.out.size))).mono ?_
 rintro e w4 ⟨rfl,hb4⟩
 have HB4:=hide (HB3.out.trans (hb4.mono HB3.out.size))
 clear hb4 x1 x2 x3 x4
 go_wp2
 go_ret
 exact ⟨rfl,HB0.out.trans (HB4.out.mono HB0.out.size)⟩
end Go.Proofs.YtecegaflhdgfaaaGreat
