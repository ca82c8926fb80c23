import Derived.Test.YtmndgoapkmhglaaGreatM49CdG
namespace Go.Proofs.YtmndgoapkmhglaaGreat
open Go.RowKit
attribute [local go_sem ↓] Go.wp_at_zero Go.wp_at_succ
def NoCode (w:World) (vO vC vN vU:Value) (b:Nat):Prop:=b<w.heap.size∧∀ i,i<4→(codeV vO vC vN vU i).ownBlock≠some b
theorem RoomV.fr {w w':World}{B:Nat}{A:Option Addr}{xs:List Int}{v:Value} (h:RoomV w B A xs v) (hf:∀ b,b<w.heap.size→B≤b→w'.heap[b]? = w.heap[b]?):RoomV w' B A xs v:=by
 rcases h with h | ⟨h1,G,h2,h3,h4⟩
 ·exact .inl h
 ·exact .inr ⟨h1,G,h2,h3,(hf G (Array.getElem?_eq_some_iff.1 h4).1 h2).trans h4⟩
theorem OpsCp.fr {w w':World}{B:Nat}{ops:List OpF}{v:Value} (h:OpsCp w B ops v) (hs:w.heap.size≤w'.heap.size) (hf:∀ b,b<w.heap.size→B≤b→w'.heap[b]? = w.heap[b]?):OpsCp w' B ops v:=by
 obtain ⟨G,h1,h2,h3,h4⟩:=h
 exact ⟨G,h1,Nat.lt_of_lt_of_le h2 hs,h3,fun j hj=>(World.cell?_of_block (w:=w) (a:=⟨G,j,none⟩) (hf G h2 h1)).trans (h4 j hj)⟩
theorem CodeCp.fr {w w':World}{B:Nat}{Ac An Au:Option Addr}{c:CdF}{vO vC vN vU:Value} (h:CodeCp w B Ac An Au c vO vC vN vU) (hs:w.heap.size≤w'.heap.size) (hf:∀ b,b<w.heap.size→B≤b→w'.heap[b]? = w.heap[b]?):CodeCp w' B Ac An Au c vO vC vN vU:=
 ⟨h.ops.fr hs hf,h.cells.fr hf,h.next.fr hf,h.out.fr hf⟩
theorem grownBy_trans' {a b c:World}{r:Option Nat} (h:a.grownBy b r) (k:b.grownBy c r):a.grownBy c r:=
 ⟨k.os.trans h.os,k.tape.trans h.tape,k.output.trans h.output,Nat.le_trans h.size k.size,fun n hn hne=>(k.block n (Nat.lt_of_lt_of_le hn h.size) hne).trans (h.block n hn hne)⟩
theorem grown_none (w:World) (o:Obj):w.grownBy (w.alloc o) none:=⟨rfl,rfl,rfl,by simp,fun k hk _=>Below.heap_alloc w o k hk⟩
theorem own_one (w:World) {B:Nat} (hB:B≤w.heap.size) (o:OwnV):(w.alloc (.cells o.cells.toArray 36)).ownsRow B 36 5 (.slice (some ⟨w.heap.size,0,none⟩) 1 1) 1 (ownCells ([] ++ [o])):=by
 refine ⟨by simp [ownCells,OwnV.cells],.inr ⟨w.heap.size,1,o.cells.toArray,rfl,hB,heap_alloc_new w _,Nat.le_refl _,by unfold maxLen;omega,rfl,?_⟩⟩
 simp [ownCells,OwnV.cells]
set_option maxHeartbeats 8000000 in
set_option maxRecDepth 100000 in
theorem lshared_any (w:World) (B K:Nat) (c:CdF) (vO vC vN vU uO uC uN uU:Value) (Ac An Au:Option Addr) (h:CodeOwn w B vO vC vN vU c) (hk:CodeCp w K Ac An Au c uO uC uN uU) (hn0:An=none→c.next=[]) (hu0:Au=none→c.out=[])
  (h1:c.ops.length≤1500) (h2:c.cells.length≤1500) (h3:c.next.length≤1500) (h4:c.out.length≤1500) (hK:∀ i,i<4→∀ g,(codeV vO vC vN vU i).ownBlock=some g→g<K) :
  Calls Tryz.prog 18 #[.agg #[vO,vC,vN,vU],.agg #[uO,uC,uN,uU]] w fun e w'=>e = .returned (.bool true)∧Fr (NoCode w vO vC vN vU) w w':=by
 obtain ⟨i0,hi0,hz0,hz1,hz2⟩:=info_parts Tryz.infoOwn
 have HH:=hide h
 have HKK:=hide hk
 have HKB:=hide hK
 have HBL:=hide h.blk
 obtain ⟨aO,cO,rfl,hsO⟩:=own_shape h.ops
 obtain ⟨aC,cC,rfl,hsC⟩:=own_shape h.cells
 obtain ⟨aN,cN,rfl,hsN⟩:=own_shape h.next
 obtain ⟨aU,cU,rfl,hsU⟩:=own_shape h.out
 obtain ⟨gk,hgk1,hgk2,rfl,hgk3⟩:=hk.ops
 obtain ⟨bC,nC,kC,rfl⟩:=hk.cells.shape
 obtain ⟨bN,nN,kN,eN⟩:=hk.next.shape
 obtain ⟨bU,nU,kU,eU⟩:=hk.out.shape
 subst eN eU
 obtain ⟨RV,hRV⟩:∃ RV:Nat→Value,RV=fun i=>codeV (.slice aO c.ops.length cO) (.slice aC c.cells.length cC) (.slice aN c.next.length cN) (.slice aU c.out.length cU) (i+1):=⟨_,rfl⟩
 obtain ⟨b0,hb0⟩:∃ b0,b0=(w.alloc (.cells #[.slice aO c.ops.length cO,.slice aC c.cells.length cC,.slice aN c.next.length cN,.slice aU c.out.length cU] 43)).alloc (.cells #[.slice (some ⟨gk,0,none⟩) c.ops.length c.ops.length,.slice bC nC kC,.slice bN nN kN,.slice bU nU kU] 43):=⟨_,rfl⟩
 have s0:b0.heap.size=w.heap.size+2:=by rw [hb0];simp
 have hbb:Below w.heap.size w b0:=by rw [hb0];exact ((Below.refl _ _).alloc (Nat.le_refl _) _).alloc (by simp) _
 have k0:b0.heap[w.heap.size]? = some (.cells #[.slice aO c.ops.length cO,.slice aC c.cells.length cC,.slice aN c.next.length cN,.slice aU c.out.length cU] 43):=by rw [hb0,Below.heap_alloc _ _ _ (by simp)];exact heap_alloc_new w _
 have k1:b0.heap[w.heap.size+1]? = some (.cells #[.slice (some ⟨gk,0,none⟩) c.ops.length c.ops.length,.slice bC nC kC,.slice bN nN kN,.slice bU nU kU] 43):=by rw [hb0];have:=heap_alloc_new (w.alloc (.cells #[.slice aO c.ops.length cO,.slice aC c.cells.length cC,.slice aN c.next.length cN,.slice aU c.out.length cU] 43)) (.cells #[.slice (some ⟨gk,0,none⟩) c.ops.length c.ops.length,.slice bC nC kC,.slice bN nN kN,.slice bU nU kU] 43);rw [World.size_alloc] at this;exact this
 -- what a world that keeps the boxes shows
 have HC:Hid (∀ W:World,W.heap[w.heap.size]? = b0.heap[w.heap.size]?→W.heap[w.heap.size+1]? = b0.heap[w.heap.size+1]?→W.cell? ⟨w.heap.size,0,none⟩=some (.slice aO c.ops.length cO)∧W.cell? ⟨w.heap.size,1,none⟩=some (.slice aC c.cells.length cC)∧W.cell? ⟨w.heap.size,2,none⟩=some (.slice aN c.next.length cN)∧W.cell? ⟨w.heap.size,3,none⟩=some (.slice aU c.out.length cU)∧W.cell? ⟨w.heap.size+1,2,none⟩=some (.slice bN nN kN)∧W.cell? ⟨w.heap.size+1,3,none⟩=some (.slice bU nU kU)):=hide (fun W e0 e1=>by
  rw [k0] at e0
  rw [k1] at e1
  exact ⟨by rw [cell_of_row W _ 0 _ _ _ e0];rfl,by rw [cell_of_row W _ 1 _ _ _ e0];rfl,by rw [cell_of_row W _ 2 _ _ _ e0];rfl,by rw [cell_of_row W _ 3 _ _ _ e0];rfl,by rw [cell_of_row W _ 2 _ _ _ e1];rfl,by rw [cell_of_row W _ 3 _ _ _ e1];rfl⟩)
 have HBB:=hide hbb
 have HS0:=hide s0
 have HSO:=hide hsO
 have HRV:=hide hRV
 have HOP:Hid (∃ xs,b0.ownsRow B 79 4 (.slice aO c.ops.length cO) c.ops.length xs):=hide ⟨_,bel_own h.ops hbb⟩
 clear h hk hK hsO hsC hsN hsU hgk3 s0 hbb k0 k1 hRV
 go_enter Tryz.func18,Tryz.ntmps18
 go_wp2_with fail
 rw [← hb0]
 clear hb0
 go_wp2
 go_loopw [5] (fun vi wr=>∃ k:Nat,k≤c.ops.length∧vi = .int .i64 k∧b0.grownBy wr (Value.slice aO c.ops.length cO).ownBlock∧∃ xs,wr.ownsRow B 79 4 (.slice aO c.ops.length cO) c.ops.length xs) (fun vi _=>c.ops.length - (intOf vi).toNat)
 case atStart=>exact ⟨0,Nat.zero_le _,rfl,⟨rfl,rfl,rfl,Nat.le_refl _,fun _ _ _=>rfl⟩,HOP.out⟩
 case round=>
  obtain ⟨k,hk,rfl,hg,xs,hown⟩:=hrel
  have hs0:=HS0.out
  have hblO:=HBL.out 0 (by omega)
  have e0:wr.heap[w.heap.size]? = b0.heap[w.heap.size]?:=hg.block _ (by omega) (fun e=>by have:=(hblO _ e.symm).2;omega)
  have e1:wr.heap[w.heap.size+1]? = b0.heap[w.heap.size+1]?:=hg.block _ (by omega) (fun e=>by have:=(hblO _ e.symm).2;omega)
  obtain ⟨x0,x1,x2,x3,x4,x5⟩:=HC.out wr e0 e1
  have HG:=hide hg
  have HOWN:=hide hown
  by_cases hkl:k<c.ops.length
  ·obtain ⟨gO,rfl,_,hgO⟩:=HSO.out (by omega)
   have hxl:xs.length=c.ops.length * 4:=hown.1
   have cl:∀ j,j<4→∃ ov,wr.cell? ⟨gO,k * 4+j,none⟩=some ov:=fun j hj=>by
    rw [hown.cellAt (k * 4+j) (by omega),List.getElem?_eq_getElem (by omega)]
    exact ⟨_,rfl⟩
   obtain ⟨o0,c0⟩:=cl 0 (by omega)
   obtain ⟨o1,c1⟩:=cl 1 (by omega)
   obtain ⟨o2,c2⟩:=cl 2 (by omega)
   obtain ⟨o3,c3⟩:=cl 3 (by omega)
   rw [Nat.add_zero] at c0
   have fz:∀ j,wr.frozen? ⟨gO,j,none⟩=false:=fun j=>by
    rcases hown.2 with ⟨e,_⟩ | ⟨g',c',cur,e,_,eh,_⟩
    ·cases e
    ·cases e;exact frozen_of_row wr gO j _ _ eh
   have f0:=fz (k * 4)
   have f1:=fz (k * 4+1)
   have f2:=fz (k * 4+2)
   have f3:=fz (k * 4+3)
   have j1:(0:Int)≤(k:Int):=by omega
   have j2:(k:Int)<(c.ops.length:Int):=by omega
   clear hg hown e0 e1 hblO cl fz hxl
   go_wp2
   go_roundw
   case rel=>
    obtain ⟨p1,q1⟩:=HOWN.out.stored (k * 4) (.int .i64 (-77))
    obtain ⟨p2,q2⟩:=p1.stored (k * 4+1) (.int .i64 0)
    obtain ⟨p3,q3⟩:=p2.stored (k * 4+2) (.int .i64 0)
    obtain ⟨p4,q4⟩:=p3.stored (k * 4+3) (.int .i64 0)
    exact ⟨k+1,by omega,by go_num,grownBy_trans' (grownBy_trans' (grownBy_trans' (grownBy_trans' HG.out q1) q2) q3) q4,_,p4⟩
   case measure=>simp [intOf];omega
  ·have ek:k=c.ops.length:=by omega
   subst ek
   have z9:¬ (c.ops.length:Int)<(c.ops.length:Int):=by omega
   obtain ⟨wL,hwL⟩:∃ wL,wL=wr:=⟨_,rfl⟩
   rw [← hwL] at hg hown x0 x1 x2 x3 x4 x5 HG HOWN e0 e1
   rw [← hwL]
   clear hwL
   have hsL:=hg.size
   have HB3:Hid (∀ i,i<3→∀ g,(RV i).ownBlock=some g→B≤g∧g<wL.heap.size):=hide (fun i hi g hgg=>by
    rw [HRV.out] at hgg
    have:=HBL.out (i+1) (by omega) g hgg
    omega)
   have HAP:Hid (∀ i j,i<3→j<3→i≠j→∀ g,(RV i).ownBlock=some g→(RV j).ownBlock≠some g):=hide (fun i j hi hj hij g hgg=>by
    rw [HRV.out] at hgg ⊢
    exact HH.out.apart (i+1) (j+1) (by omega) (by omega) (by omega) g hgg)
   have HKP:Hid (∀ (W:World) (k:Nat) (os:List OwnV) (vl:Value),Owning wL W 3 k RV os vl→k≤3→(∀ b,b<w.heap.size→(∀ i,i<4→(codeV (.slice aO c.ops.length cO) (.slice aC c.cells.length cC) (.slice aN c.next.length cN) (.slice aU c.out.length cU) i).ownBlock≠some b)→W.heap[b]? = w.heap[b]?)∧W.heap[w.heap.size]? = b0.heap[w.heap.size]?∧W.heap[w.heap.size+1]? = b0.heap[w.heap.size+1]?∧
     (k≤1→W.ownsRow B 3 1 (.slice aN c.next.length cN) c.next.length (iCells c.next))∧(k≤2→W.ownsRow B 3 1 (.slice aU c.out.length cU) c.out.length (iCells c.out))∧CodeCp W K Ac An Au c (.slice (some ⟨gk,0,none⟩) c.ops.length c.ops.length) (.slice bC nC kC) (.slice bN nN kN) (.slice bU nU kU)):=hide (fun W k os vl hW hk3=>by
    have hgen:∀ b,b<b0.heap.size→(Value.slice aO c.ops.length cO).ownBlock≠some b→(∀ l,l<k→(RV l).ownBlock≠some b)→W.heap[b]? = b0.heap[b]?:=fun b hb h1 h2=>(hW.fr b (by omega) h2).trans (HG.out.block b hb (Ne.symm h1))
    have hRVb:∀ l,l<3→∀ g,(RV l).ownBlock=some g→g<w.heap.size:=fun l hl g hgg=>by rw [HRV.out] at hgg;exact (HBL.out (l+1) (by omega) g hgg).2
    have hOb:∀ g,(Value.slice aO c.ops.length cO).ownBlock=some g→g<w.heap.size:=fun g hgg=>(HBL.out 0 (by omega) g hgg).2
    have hold:∀ b,b<w.heap.size→(∀ i,i<4→(codeV (.slice aO c.ops.length cO) (.slice aC c.cells.length cC) (.slice aN c.next.length cN) (.slice aU c.out.length cU) i).ownBlock≠some b)→W.heap[b]? = w.heap[b]?:=fun b hb hi=>(hgen b (by omega) (hi 0 (by omega)) (fun l hl=>by rw [HRV.out];exact hi (l+1) (by omega))).trans (HBB.out.block b hb)
    refine ⟨hold,hgen _ (by omega) (fun e=>by have:=hOb _ e;omega) (fun l hl e=>by have:=hRVb l (by omega) _ e;omega),hgen _ (by omega) (fun e=>by have:=hOb _ e;omega) (fun l hl e=>by have:=hRVb l (by omega) _ e;omega),fun hk1=>?_,fun hk2=>?_,?_⟩
    ·refine own_of HH.out.next (fun g hgg=>?_)
     refine (hgen g (by have:=(HBL.out 2 (by omega) g hgg).2;omega) (HH.out.apart 2 0 (by omega) (by omega) (by omega) g hgg) (fun l hl=>?_)).trans (HBB.out.block g (HBL.out 2 (by omega) g hgg).2)
     rw [HRV.out]
     exact HH.out.apart 2 (l+1) (by omega) (by omega) (by omega) g hgg
    ·refine own_of HH.out.out (fun g hgg=>?_)
     refine (hgen g (by have:=(HBL.out 3 (by omega) g hgg).2;omega) (HH.out.apart 3 0 (by omega) (by omega) (by omega) g hgg) (fun l hl=>?_)).trans (HBB.out.block g (HBL.out 3 (by omega) g hgg).2)
     rw [HRV.out]
     exact HH.out.apart 3 (l+1) (by omega) (by omega) (by omega) g hgg
    ·refine HKK.out.fr (by have:=hW.size;omega) (fun b hb hKb=>hold b hb (fun i hi e=>by have:=HKB.out i hi b e;omega)))
   have HOW0:Hid (Owning wL wL 3 0 RV [] (.slice none 0 0)):=hide ⟨rfl,rfl,rfl,Nat.le_refl _,fun _ _ _=>rfl,rfl,World.ownsRow_nil _ _ _ _,fun o ho=>by simp at ho⟩
   have HCEL:Hid (wL.ownsRow B 3 1 (.slice aC c.cells.length cC) c.cells.length (iCells c.cells)):=hide (by
    refine own_of HH.out.cells (fun g hgg=>?_)
    exact (HG.out.block g (by have:=(HBL.out 1 (by omega) g hgg).2;omega) (fun e=>HH.out.apart 1 0 (by omega) (by omega) (by omega) g hgg e.symm)).trans (HBB.out.block g (HBL.out 1 (by omega) g hgg).2))
   have HO1:=hide (lown_any wL B (.slice aC c.cells.length cC) c.cells (-78) HCEL.out (by omega))
   clear hg hown e0 e1 HOWN HOP hblO
   go_wp2_with fail
   refine HO1.out.mono ?_
   rintro e w2 ⟨o,rfl,ea,en,em,hoat,hgr⟩
   clear ea en em
   have HOA:=hide hoat
   have HGR:=hide hgr
   have hs2:=hgr.size
   have HN1:Hid (Owning wL (w2.alloc (.cells o.cells.toArray 36)) 3 1 RV [o] (.slice (some ⟨w2.heap.size,0,none⟩) 1 1)):=hide (by
    have e:(RV 0).ownBlock=(Value.slice aC c.cells.length cC).ownBlock:=by rw [HRV.out];rfl
    exact HOW0.out.next1 (B:=B) (by omega) HB3.out HAP.out (by rw [e];exact HOA.out) (by rw [e];exact HGR.out) (Below.refl _ _) (grown_none w2 _) (.inr ⟨w2.heap.size,rfl,Nat.le_refl _⟩) (own_one w2 (by omega) o))
   obtain ⟨o1,o2,o3,o4,on,om⟩:=o
   obtain ⟨A1,C1,f1,_⟩:=hoat.a
   obtain ⟨A2,C2,f2,_⟩:=hoat.b
   obtain ⟨A3,C3,f3,_⟩:=hoat.c
   obtain ⟨A4,C4,f4,_⟩:=hoat.d
   simp only at f1 f2 f3 f4
   subst f1 f2 f3 f4
   obtain ⟨W2,hW2⟩:∃ W2,W2=w2.alloc (.cells #[.slice A1 on C1,.slice A2 (on+1) C2,.slice A3 (on+2) C3,.slice A4 (on+6) C4,.int .i64 om] 36):=⟨_,rfl⟩
   have HN1':Hid (Owning wL W2 3 1 RV [⟨.slice A1 on C1,.slice A2 (on+1) C2,.slice A3 (on+2) C3,.slice A4 (on+6) C4,on,om⟩] (.slice (some ⟨w2.heap.size,0,none⟩) 1 1)):=hide (by rw [hW2];exact HN1.out)
   obtain ⟨m0,m1,m2,m3,m4,m5⟩:=HKP.out W2 1 _ _ HN1'.out (by omega)
   clear x0 x1 x2 x3 x4 x5
   obtain ⟨x0,x1,x2,x3,x4,x5⟩:=HC.out W2 m1 m2
   have HSM:=hide (lsame_any W2 _ _ c.next c.next (own_rowN (m3 (by omega)) (by omega) rfl) (m5.next.row hn0 (by omega)))
   rw [show (c.next == c.next)=true by simp] at HSM
   clear hoat hgr m0 m1 m2 m3 m4 m5 HN1 HOA HGR HO1 HCEL HOW0
   subst hW2
   go_wp2_with fail
   refine HSM.out.mono ?_
   rintro e w3 ⟨rfl,hb3⟩
   have HN3:=hide (HN1'.out.below hb3)
   obtain ⟨m0,m1,m2,m3,m4,m5⟩:=HKP.out w3 1 _ _ HN3.out (by omega)
   clear x0 x1 x2 x3 x4 x5
   obtain ⟨x0,x1,x2,x3,x4,x5⟩:=HC.out w3 m1 m2
   have HO2:=hide (lown_any w3 B (.slice aN c.next.length cN) c.next (-79) (m3 (by omega)) (by omega))
   clear hb3 m0 m1 m2 m3 m4 m5 HSM HN1'
   go_wp2_with fail
   refine HO2.out.mono ?_
   rintro e w4 ⟨o,rfl,ea,en,em,hoat,hgr⟩
   clear ea en em
   have HOA:=hide hoat
   have HGR:=hide hgr
   have hs4:=hgr.size
   have hs3L:=HN3.out.size
   have hownl:w4.ownsRow wL.heap.size 36 5 (.slice (some ⟨w2.heap.size,0,none⟩) 1 1) 1 (ownCells [⟨.slice A1 on C1,.slice A2 (on+1) C2,.slice A3 (on+2) C3,.slice A4 (on+6) C4,on,om⟩]):=own_of HN3.out.own (fun b hb=>hgr.block b (HN3.out.own.lt b hb).2 (fun e=>by have h1:=(HN3.out.own.lt b hb).1;have h2:=(HBL.out 2 (by omega) b e.symm).2;omega))
   have HNX:=hide (fun wz w6 vO' h1 h2 h3 h4=>HN3.out.next1 (B:=B) (w5:=w4) (wz:=wz) (w6:=w6) (vO':=vO') (o:=o) (by omega) HB3.out HAP.out (by rw [show (RV 1).ownBlock=(Value.slice aN c.next.length cN).ownBlock by rw [HRV.out];rfl];exact HOA.out) (by rw [show (RV 1).ownBlock=(Value.slice aN c.next.length cN).ownBlock by rw [HRV.out];rfl];exact HGR.out) h1 h2 h3 h4)
   obtain ⟨p1,p2,p3,p4,pn,pm⟩:=o
   obtain ⟨D1,E1,f1,_⟩:=hoat.a
   obtain ⟨D2,E2,f2,_⟩:=hoat.b
   obtain ⟨D3,E3,f3,_⟩:=hoat.c
   obtain ⟨D4,E4,f4,_⟩:=hoat.d
   simp only at f1 f2 f3 f4
   subst f1 f2 f3 f4
   clear hoat hgr x0 x1 x2 x3 x4 x5 HO2 HOA HGR
   go_wp2_with (at_builtin;refine wpList_append_lies _ rfl _ _ _ rfl wL.heap.size 36 i0 _ 5 104 Tryz.underlying23 hi0 hz0 hz1 hz2 rfl (by omega) _ 1 (ownCells [⟨.slice A1 on C1,.slice A2 (on+1) C2,.slice A3 (on+2) C3,.slice A4 (on+6) C4,on,om⟩]) rfl (hownl.alloc _) ⟨w4.heap.size,0,none⟩ 1 1 [.slice D1 pn E1,.slice D2 (pn+1) E2,.slice D3 (pn+2) E3,.slice D4 (pn+6) E4,.int .i64 pm] rfl rfl (World.news_of_block (cs:=#[.slice D1 pn E1,.slice D2 (pn+1) E2,.slice D3 (pn+2) E3,.slice D4 (pn+6) E4,.int .i64 pm]) (t:=36) (fr:=(0,0)) (heap_alloc_new w4 _)) (by simp [Value.oneCell']) (by omega) (by unfold maxLen;omega) (by omega) (by simp;omega) (w4.heap.size+1) (by simp) ?_;intro gg cap2 w6 hown6 hgrow hat hlt6;have HN6:=hide (HNX.out _ w6 (.slice (some ⟨gg,0,none⟩) 2 cap2) ((Below.refl _ _).alloc (Nat.le_refl _) _) hgrow (hat.imp (fun e=>e.symm) (fun e=>⟨gg,rfl,by omega⟩)) (by rw [ownCells_snoc];exact hown6));obtain ⟨m0,m1,m2,m3,m4,m5⟩:=HKP.out w6 2 _ _ HN6.out (by omega);obtain ⟨x0,x1,x2,x3,x4,x5⟩:=HC.out w6 m1 m2)
   have HSM:=hide (lsame_any w6 _ _ c.out c.out (own_rowN (m4 (by omega)) (by omega) rfl) (m5.out.row hu0 (by omega)))
   rw [show (c.out == c.out)=true by simp] at HSM
   clear m0 m1 m2 m3 m4 m5 HNX hownl hown6 hgrow hat HN3
   refine HSM.out.mono ?_
   rintro e w7 ⟨rfl,hb7⟩
   have HN7:=hide (HN6.out.below hb7)
   obtain ⟨m0,m1,m2,m3,m4,m5⟩:=HKP.out w7 2 _ _ HN7.out (by omega)
   clear x0 x1 x2 x3 x4 x5
   obtain ⟨x0,x1,x2,x3,x4,x5⟩:=HC.out w7 m1 m2
   have HO3:=hide (lown_any w7 B (.slice aU c.out.length cU) c.out (-80) (m4 (by omega)) (by omega))
   clear hb7 m0 m1 m2 m3 m4 m5 HSM HN6
   go_wp2_with fail
   refine HO3.out.mono ?_
   rintro e w8 ⟨o,rfl,ea,en,em,hoat,hgr⟩
   clear ea en em
   have HOA:=hide hoat
   have HGR:=hide hgr
   have hs8:=hgr.size
   have hs7L:=HN7.out.size
   have hownl:w8.ownsRow wL.heap.size 36 5 (.slice (some ⟨gg,0,none⟩) 2 cap2) 2 (ownCells ([⟨.slice A1 on C1,.slice A2 (on+1) C2,.slice A3 (on+2) C3,.slice A4 (on+6) C4,on,om⟩] ++ [⟨.slice D1 pn E1,.slice D2 (pn+1) E2,.slice D3 (pn+2) E3,.slice D4 (pn+6) E4,pn,pm⟩])):=own_of HN7.out.own (fun b hb=>hgr.block b (HN7.out.own.lt b hb).2 (fun e=>by have h1:=(HN7.out.own.lt b hb).1;have h2:=(HBL.out 3 (by omega) b e.symm).2;omega))
   have HNX:=hide (fun wz w6 vO' h1 h2 h3 h4=>HN7.out.next1 (B:=B) (w5:=w8) (wz:=wz) (w6:=w6) (vO':=vO') (o:=o) (by omega) HB3.out HAP.out (by rw [show (RV 2).ownBlock=(Value.slice aU c.out.length cU).ownBlock by rw [HRV.out];rfl];exact HOA.out) (by rw [show (RV 2).ownBlock=(Value.slice aU c.out.length cU).ownBlock by rw [HRV.out];rfl];exact HGR.out) h1 h2 h3 h4)
   obtain ⟨r1,r2,r3,r4,rn,rm⟩:=o
   obtain ⟨F1,G1,f1,_⟩:=hoat.a
   obtain ⟨F2,G2,f2,_⟩:=hoat.b
   obtain ⟨F3,G3,f3,_⟩:=hoat.c
   obtain ⟨F4,G4,f4,_⟩:=hoat.d
   simp only at f1 f2 f3 f4
   subst f1 f2 f3 f4
   clear hoat hgr x0 x1 x2 x3 x4 x5 HO3 HOA HGR
   go_wp2_with (at_builtin;refine wpList_append_lies _ rfl _ _ _ rfl wL.heap.size 36 i0 _ 5 104 Tryz.underlying23 hi0 hz0 hz1 hz2 rfl (by omega) _ 2 (ownCells ([⟨.slice A1 on C1,.slice A2 (on+1) C2,.slice A3 (on+2) C3,.slice A4 (on+6) C4,on,om⟩] ++ [⟨.slice D1 pn E1,.slice D2 (pn+1) E2,.slice D3 (pn+2) E3,.slice D4 (pn+6) E4,pn,pm⟩])) rfl (hownl.alloc _) ⟨w8.heap.size,0,none⟩ 1 1 [.slice F1 rn G1,.slice F2 (rn+1) G2,.slice F3 (rn+2) G3,.slice F4 (rn+6) G4,.int .i64 rm] rfl rfl (World.news_of_block (cs:=#[.slice F1 rn G1,.slice F2 (rn+1) G2,.slice F3 (rn+2) G3,.slice F4 (rn+6) G4,.int .i64 rm]) (t:=36) (fr:=(0,0)) (heap_alloc_new w8 _)) (by simp [Value.oneCell']) (by omega) (by unfold maxLen;omega) (by omega) (by simp;omega) (w8.heap.size+1) (by simp) ?_;intro gh cap3 w9 hown9 hgrow hat hlt9;have HN9:=hide (HNX.out _ w9 (.slice (some ⟨gh,0,none⟩) 3 cap3) ((Below.refl _ _).alloc (Nat.le_refl _) _) hgrow (hat.imp (fun e=>e.symm) (fun e=>⟨gh,rfl,by omega⟩)) (by rw [ownCells_snoc];exact hown9)))
   have HEND:Hid (∀ W,Below w9.heap.size w9 W→Fr (NoCode w (.slice aO c.ops.length cO) (.slice aC c.cells.length cC) (.slice aN c.next.length cN) (.slice aU c.out.length cU)) w W):=hide (fun W hW=>by
    have hN:=HN9.out.below hW
    have hk:=(HKP.out W 3 _ _ hN (by omega)).1
    exact ⟨hN.o1.trans (HG.out.os.trans HBB.out.os),hN.o2.trans (HG.out.tape.trans HBB.out.tape),hN.o3.trans (HG.out.output.trans HBB.out.output),by have:=hN.size;have:=HBB.out.size;omega,fun b hb=>hk b hb.1 hb.2⟩)
   obtain ⟨os,hos⟩:∃ os:List OwnV,os=[⟨.slice A1 on C1,.slice A2 (on+1) C2,.slice A3 (on+2) C3,.slice A4 (on+6) C4,on,om⟩] ++ [⟨.slice D1 pn E1,.slice D2 (pn+1) E2,.slice D3 (pn+2) E3,.slice D4 (pn+6) E4,pn,pm⟩] ++ [⟨.slice F1 rn G1,.slice F2 (rn+1) G2,.slice F3 (rn+2) G3,.slice F4 (rn+6) G4,rn,rm⟩]:=⟨_,rfl⟩
   have HOS:Hid (Owning wL w9 3 3 RV os (.slice (some ⟨gh,0,none⟩) 3 cap3)):=hide (by rw [hos];exact HN9.out)
   have hosl:os.length=3:=by rw [hos];rfl
   clear HNX hownl hown9 hgrow hat HN7 HN9 hos
   go_wp2
   go_loopw [9] (fun vj wx=>∃ j:Nat,j≤3∧vj = .int .i64 j∧Below w9.heap.size w9 wx) (fun vj _=>3 - (intOf vj).toNat)
   case atStart=>exact ⟨0,Nat.zero_le _,rfl,by first | exact Below.refl _ _ | exact below_drewN (Below.refl _ _) _⟩
   case round=>
    obtain ⟨j,hj,rfl,hbj⟩:=hrel
    have HBJ:=hide hbj
    by_cases hjk:j<3
    ·have hjo:j<os.length:=by omega
     obtain ⟨o,ho⟩:∃ o,o=os[j]'hjo:=⟨_,rfl⟩
     have hcl:∀ i,i<5→wr.cell? ⟨gh,j * 5+i,none⟩=o.cells[i]?:=fun i hi=>by
      rw [(HOS.out.below hbj).own.cellAt (j * 5+i) (by omega)]
      have e:=flat_get OwnV.cells 5 own5_len os j i hjo hi
      rw [← ho] at e
      exact e
     have c0:wr.cell? ⟨gh,j * 5,none⟩=some o.a:=hcl 0 (by omega)
     have c1:wr.cell? ⟨gh,j * 5+1,none⟩=some o.b:=hcl 1 (by omega)
     have c2:wr.cell? ⟨gh,j * 5+2,none⟩=some o.c:=hcl 2 (by omega)
     have c3:wr.cell? ⟨gh,j * 5+3,none⟩=some o.d:=hcl 3 (by omega)
     have c4:wr.cell? ⟨gh,j * 5+4,none⟩=some (.int .i64 o.m):=hcl 4 (by omega)
     have hom:o∈os:=by rw [ho];exact List.getElem_mem hjo
     have H1:=hide (fun W (hW:Below w9.heap.size w9 W)=>lholds_any W _ o ((HOS.out.below hW).all o hom))
     obtain ⟨A1,C1,e1,_⟩:=(HOS.out.all o hom).a
     obtain ⟨A2,C2,e2,_⟩:=(HOS.out.all o hom).b
     obtain ⟨A3,C3,e3,_⟩:=(HOS.out.all o hom).c
     obtain ⟨A4,C4,e4,_⟩:=(HOS.out.all o hom).d
     simp only [OwnV.val] at H1
     rw [e1,e2,e3,e4] at H1
     rw [e1] at c0
     rw [e2] at c1
     rw [e3] at c2
     rw [e4] at c3
     have j3:(0:Int)≤(j:Int):=by omega
     have j4:(j:Int)<3:=by omega
     generalize o.m=om at c4 H1
     generalize o.n=on at c0 c1 c2 c3 H1
     clear hcl ho e1 e2 e3 e4 hosl
     go_wp2_with fail
     refine (H1.out wr hbj).mono ?_
     rintro e wd ⟨rfl,hbc⟩
     have HBC2:=hide (HBJ.out.trans (hbc.mono HBJ.out.size))
     clear hbc hbj c0 c1 c2 c3 c4 H1
     go_wp2
     go_roundw
     case rel=>exact ⟨j+1,by omega,by go_num,by first | exact HBC2.out | exact below_drewN HBC2.out _⟩
     case measure=>simp [intOf];omega
    ·have ej:j=3:=by omega
     subst ej
     clear hbj hosl
     go_wp2
     go_ret
     exact ⟨rfl,HEND.out _ (by first | exact HBJ.out | exact below_drewN HBJ.out _)⟩
end Go.Proofs.YtmndgoapkmhglaaGreat
