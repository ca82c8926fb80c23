import Derived.BigRegion
import Derived.Deep.RegionLaw
import Derived.Test.YtmndgoapkmhglabGreatM21RefI
namespace Go.Proofs.YtmndgoapkmhglabGreat
open Go.RowKit
attribute [local go_sem ↓] Go.wp_at_zero Go.wp_at_succ
set_option maxHeartbeats 4000000 in
set_option maxRecDepth 100000 in
theorem program_any (ts:List Tk) (L:List Dl) (w:World) (g cap:Nat) (h:TokAt w g cap ts) (hF:∀ i,TkF (tkAt ts i)) (hE:∀ i,(tkAt ts i).kind=0→ts.length≤i+1) (hl:ts.length≤1501) (hL:Spell ts L 0) :
  Calls Tryz.prog 37 #[.slice (some ⟨g,0,none⟩) ts.length cap] w fun e w'=>e = .returned (.pointer (some ⟨w.heap.size,0,none⟩))∧∃ R,RPV w' w.heap.size w.heap.size (.slice (some ⟨g,0,none⟩) ts.length cap) R∧
   ((R 1).e=3∧(R 1).sz=1∧(R 1).n=ts.length∧(R 1).xs=pCells ((List.range ts.length).map (behindF ts)))∧
   ((R 2).e=106∧(R 2).sz=6∧(R 2).n=L.length∧(R 2).xs=rdCells (L.map (rdc ts)))∧
   ((R 3).e=106∧(R 3).sz=6∧(R 3).n=(inL L).length∧(R 3).xs=rdCells ((inL L).map (rdc ts)))∧
   ((R 4).e=106∧(R 4).sz=6∧(R 4).n=(eqL L).length∧(R 4).xs=rdCells ((eqL L).map (rdc ts)))∧Below w.heap.size w w':=by
 obtain ⟨i0,hi0,hz0,hz1,hz2⟩:=info_parts Tryz.infoInt
 obtain ⟨i5,hi5,hy0,hy1,hy2⟩:=info_parts Tryz.infoRDecl
 have HT:=hide h
 have HF:=hide hF
 have HE:=hide hE
 have HL:=hide hL
 clear h hF hE hL
 go_enter Tryz.func37,Tryz.ntmps37
 go_wp2
 go_loopw [4] (fun i wr=>∃ (k:Nat) (v:Value),k≤ts.length∧i = .int .i64 k∧RPV wr w.heap.size w.heap.size (.slice (some ⟨g,0,none⟩) ts.length cap) (putR R0 1 ⟨v,3,1,k,pCells ((List.range k).map (behindF ts))⟩)∧Below w.heap.size w wr) (fun i _=>ts.length - (intOf i).toNat)
 case atStart=>
  refine ⟨0,.slice none 0 0,Nat.zero_le _,rfl,⟨by simp,heap_alloc_new w _,fun f=>?_,fun f=>?_,fun f1 f2 k _ hk=>?_⟩,(Below.refl _ _).alloc (Nat.le_refl _) _⟩
  ·obtain ⟨h1,h2,h3⟩:=R0_nil f
   have h3':(putR R0 1 ⟨.slice none 0 0,3,1,0,pCells ((List.range 0).map (behindF ts))⟩ f).xs=[]:=h3
   rw [h3']
   have h2':(putR R0 1 ⟨.slice none 0 0,3,1,0,pCells ((List.range 0).map (behindF ts))⟩ f).n=0:=h2
   have h1':(putR R0 1 ⟨.slice none 0 0,3,1,0,pCells ((List.range 0).map (behindF ts))⟩ f).v = .slice none 0 0:=h1
   rw [h2',h1']
   exact World.ownsRow_nil _ _ _ _
  ·have h1':(putR R0 1 ⟨.slice none 0 0,3,1,0,pCells ((List.range 0).map (behindF ts))⟩ f).v = .slice none 0 0:=(R0_nil f).1
   rw [h1'];simp [Value.ownBlock]
  ·exfalso
   have h1':(putR R0 1 ⟨.slice none 0 0,3,1,0,pCells ((List.range 0).map (behindF ts))⟩ f1).v = .slice none 0 0:=(R0_nil f1).1
   rw [h1'] at hk
   simp [Value.ownBlock] at hk
 case round=>
  obtain ⟨k,v,hk,rfl,hrp,hbel⟩:=hrel
  have HRP:=hide hrp
  have hbs:=hbel.size
  by_cases hlt:k<ts.length
  ·have j1:(0:Int)≤(k:Int):=by omega
   have j2:(k:Int)<(ts.length:Int):=by omega
   have hbh:=behindF_le ts k (by omega)
   have hq:=hrp.lt
   have c1:wr.cell? ⟨w.heap.size,1,none⟩=some v:=cell_of_row wr w.heap.size 1 _ _ _ hrp.blk
   have f1:wr.frozen? ⟨w.heap.size,1,none⟩=false:=frozen_of_row wr w.heap.size 1 _ _ hrp.blk
   have ca:∀ o,(wr.alloc o).cell? ⟨w.heap.size,1,none⟩=some v:=fun o=>by rw [World.cell?_alloc_past _ _ _ hq];exact c1
   have fa:∀ o,(wr.alloc o).frozen? ⟨w.heap.size,1,none⟩=false:=fun o=>by rw [World.frozen?_alloc_past _ _ _ hq];exact f1
   have hown:wr.ownsRow w.heap.size 3 1 v k (pCells ((List.range k).map (behindF ts))):=hrp.own 1
   have nbv:v.ownBlock≠some w.heap.size:=hrp.nq 1
   have HR1:Hid (pCells ((List.range (k+1)).map (behindF ts))=pCells ((List.range k).map (behindF ts)) ++ [.int .i64 (behindF ts k:Nat)]):=hide (by rw [List.range_succ,List.map_append,List.map_singleton,pCells_snoc])
   clear hrp
   go_wp2_with fail
   refine (behind_any ts k _ g cap (HT.out.below hbel) HF.out hl (by omega)).mono ?_
   rintro e1 w1 ⟨rfl,hw1⟩
   subst hw1
   generalize hbb:behindF ts k=b at *
   have HBB:=hide hbb
   clear hbb
   go_wp2_with (at_builtin;refine wpList_append_lies _ rfl _ _ _ rfl w.heap.size 3 i0 _ 1 8 Tryz.underlying36 hi0 hz0 hz1 hz2 rfl (by omega) v k (pCells ((List.range k).map (behindF ts))) rfl (hown.alloc _) ⟨wr.heap.size,0,none⟩ 1 1 [.int .i64 (b:Int)] rfl rfl (World.news_of_block (cs:=#[.int .i64 (b:Int)]) (t:=3) (fr:=(0,0)) (heap_alloc_new wr _)) (by simp [Value.oneCell']) (by omega) (by unfold maxLen;omega) (by omega) (by simp;omega) (wr.heap.size+1) (by simp) ?_;intro gg cap2 w3 hown3 hgrow hat hlt3;have k4:=(hgrow.cell_far ⟨w.heap.size,1,none⟩ (by simp;omega) (Ne.symm nbv)).trans (ca _);have g4:=(hgrow.frozen_far ⟨w.heap.size,1,none⟩ (by simp;omega) (Ne.symm nbv)).trans (fa _))
   go_roundw
   case rel=>
    have hfin:=(HRP.out.below ((Below.refl _ _).alloc (Nat.le_refl _) (.cells #[.int .i64 (b:Int)] 3))).push 1 _ (putR_at _ _ _) (by omega) hgrow (g:=gg) (cap:=cap2) (n:=k+1) (xs:=pCells ((List.range k).map (behindF ts)) ++ [.int .i64 (b:Int)]) hown3 (hat_le hat (by simp))
    refine ⟨k+1,.slice (some ⟨gg,0,none⟩) (k+1) cap2,by omega,by go_num,?_,?_⟩
    ·rw [HR1.out]
     rw [putR_put] at hfin
     exact hfin
    ·exact ((hbel.alloc hbel.size _).grown hgrow (by simp;omega) (fun j hj=>ownBlock_ge hown j hj)).setCell (Nat.le_refl _) _
   case measure=>simp [intOf];omega
  ·have ek:k=ts.length:=by omega
   subst ek
   rw [RRw_start] at hrp
   have HRQ:=hide hrp
   have i1:¬ (ts.length:Int)<(ts.length:Int):=by omega
   clear hrp HRP
   generalize hEE:pCells ((List.range ts.length).map (behindF ts))=EE at HRQ
   have HEE:=hide hEE
   clear hEE
   go_wp2
   go_loopw [6] (fun i wx=>∃ (n:Nat) (L1 L2:List Dl) (vA vI vQ:Value),L=L1 ++ L2∧Spell ts L2 n∧i = .int .i64 n∧n≤ts.length∧
    RPV wx w.heap.size w.heap.size (.slice (some ⟨g,0,none⟩) ts.length cap) (RRw ts.length EE v vA vI vQ (L1.map (rdc ts)) ((inL L1).map (rdc ts)) ((eqL L1).map (rdc ts)))∧L1.length≤n∧Below w.heap.size w wx) (fun i _=>ts.length - (intOf i).toNat)
   case atStart=>exact ⟨0,[],L,_,_,_,rfl,HL.out,rfl,Nat.zero_le _,HRQ.out,Nat.zero_le _,hbel⟩
   case round=>
    clear hbel HRQ hbs i1
    obtain ⟨n,L1,L2,vA,vI,vQ,hsplit,hsp,rfl,hn,hrp,hL1,hbel⟩:=hrel
    have HS:=hide hsplit
    have HRP:=hide hrp
    have hbs:=hbel.size
    have hq:=hrp.lt
    clear hsplit
    cases L2 with
    | nil=>
     obtain ⟨h1,h2⟩:=hsp
     have h3:=HE.out n h2
     have z1:¬ (n:Int)+5<(ts.length:Int):=by omega
     have z2:¬ (n:Int)+2<(ts.length:Int):=by omega
     clear hrp h2
     go_wp2
     go_ret
     have e:=HS.out
     rw [List.append_nil] at e
     subst e
     refine ⟨rfl,_,HRP.out,?_,?_,?_,?_,hbel⟩
     ·exact ⟨rfl,rfl,rfl,HEE.out.symm⟩
     ·exact ⟨rfl,rfl,by simp [RRw],rfl⟩
     ·exact ⟨rfl,rfl,by simp [RRw],rfl⟩
     ·exact ⟨rfl,rfl,by simp [RRw],rfl⟩
    | cons x r=>
     obtain ⟨hxi,hxl,hxo,hsp'⟩:=hsp
     have hlx:=Dl.len_pos x
     obtain ⟨a0,ha0⟩:∃ a,a=rtok (tkAt ts n):=⟨_,rfl⟩
     obtain ⟨x0,x1,x2,x3⟩:=HT.out.cells hbel (show n<ts.length by omega) a0 ha0
     obtain ⟨a1,ha1⟩:∃ a,a=rtok (tkAt ts (n+1)):=⟨_,rfl⟩
     obtain ⟨y0,y1,y2,y3⟩:=HT.out.cells hbel (show n+1<ts.length by omega) a1 ha1
     have hk0:=(HF.out n).kw kIn (by decide)
     rw [← ha0] at hk0
     have hil:((inL L1).map (rdc ts)).length≤1501:=by rw [List.length_map];have:=List.length_filter_le (fun x:Dl=>x.kind == 0) L1;unfold inL;omega
     have hql:((eqL L1).map (rdc ts)).length≤1501:=by rw [List.length_map];have:=List.length_filter_le (fun x:Dl=>x.kind != 0) L1;unfold eqL;omega
     have hal:(L1.map (rdc ts)).length≤1501:=by rw [List.length_map];omega
     generalize hI:(inL L1).map (rdc ts)=I at hrp hil
     generalize hQ:(eqL L1).map (rdc ts)=Q at hrp hql
     generalize hA:L1.map (rdc ts)=A at hrp hal
     have HLS:=hide (And.intro hA (And.intro hI hQ))
     have HRP:=hide hrp
     clear hA hI hQ
     have hgw:g<wr.heap.size:=by have:=HT.out.lt;omega
     have xa:∀ o,(wr.alloc o).cell? ⟨g,n * 4+1,none⟩=some (.string a0.word):=fun o=>by rw [World.cell?_alloc_past _ _ _ hgw];exact x1
     have ya:∀ o,(wr.alloc o).cell? ⟨g,(n+1) * 4+1,none⟩=some (.string a1.word):=fun o=>by rw [World.cell?_alloc_past _ _ _ hgw];exact y1
     have j1:(0:Int)≤(n:Int):=by omega
     have j2:(n:Int)<(ts.length:Int):=by omega
     have j3:(0:Int)≤(n:Int)+1:=by omega
     have j4:(n:Int)+1<(ts.length:Int):=by omega
     have j5:(n:Int)+2<(ts.length:Int):=by omega
     by_cases hk:x.kind=0
     ·have hl3:x.len=3:=by unfold Dl.len;rw [if_pos hk]
      have hin:lAt ts n=kIn∧(tkAt ts (n+1)).kind=1:=by
       rcases hxo with ⟨_,h1,h2,_⟩ | ⟨h,_⟩
       ·rw [hxi] at h1 h2;exact ⟨h1,h2⟩
       ·omega
      have q1:=str_yes (t:=a0.word) (hk0.2 hin.1)
      simp only [kIn] at q1
      have hw1:a1.word=nameD ts x:=by rw [ha1];unfold rtok nameD;simp [hin.2,hxi]
      have HD:Hid (rdc ts x=⟨a1.word,n+1,true,false,0,0⟩):=hide (by unfold rdc;rw [if_pos hk,hw1,hxi])
      have HK:=hide hk
      clear hk0 hin hw1 ha0 ha1 hxo hrp hk
      by_cases h5:(n:Int)+5<(ts.length:Int)
      all_goals
       go_wp2_with fail
       go_big_region
       go_wp2_with fail
       have hst0:St w (wr.alloc (.cells #[.string a1.word,.int .i64 ((n:Int)+1),.bool true,.bool false,.int .i64 0,.int .i64 0] 106)).drew w.heap.size wr.heap.size (.slice (some ⟨g,0,none⟩) ts.length cap) (RRw ts.length EE v vA vI vQ A I Q) ⟨a1.word,n+1,true,false,0,0⟩:=
        ⟨HRP.out.below (((Below.refl _ _).alloc (Nat.le_refl _) _).drew),heap_alloc_new wr _,by omega,fun f hk=>by have:=((HRP.out.own f).lt _ hk).2;omega,(hbel.alloc hbel.size _).drew,Nat.le_refl _⟩
       obtain ⟨W,hW⟩:∃ W,W=(wr.alloc (.cells #[.string a1.word,.int .i64 ((n:Int)+1),.bool true,.bool false,.int .i64 0,.int .i64 0] 106)).drew:=⟨_,rfl⟩
       rw [← hW] at hst0 ⊢
       generalize wr.heap.size=N at hst0 hbs ⊢
       have HST:=hide hst0
       obtain ⟨hNW,hqW,e0,e1,e2,e3,e4,e5⟩:=hst0.cells
       clear hst0 hW x0 x1 x2 x3 y0 y1 y2 y3 xa ya hq HRP hgw hbel
       have hbW:=HST.out.bel.size
       obtain ⟨ca,fa,cI,fI,hownI,nbvI⟩:=HST.out.row 3 ⟨vI,106,6,I.length,rdCells I⟩ rfl (by omega)
       go_region_law ((refine step_append_lies _ (by rfl) _ _ _ (by rfl) w.heap.size 106 i5 _ 6 48 Tryz.underlying101 hi5 hy0 hy1 hy2 rfl (by omega) vI I.length (rdCells I) (by rfl) ((hownI.alloc _).drew) ⟨W.heap.size,0,none⟩ 1 1 [.string a1.word,.int .i64 ((n:Int)+1),.bool true,.bool false,.int .i64 0,.int .i64 0] (by rfl) (by rfl) (World.news_of_block (cs:=#[.string a1.word,.int .i64 ((n:Int)+1),.bool true,.bool false,.int .i64 0,.int .i64 0]) (t:=106) (fr:=(0,0)) (heap_alloc_new W _)) (by simp [Value.oneCell']) (by omega) (by unfold maxLen;omega) (by omega) (by simp;omega) (W.heap.size+1) (by simp) ?_;intro ggI capI wI hown3I hgrowI hatI hlt3I;have k4:=(hgrowI.cell_far ⟨w.heap.size,3,none⟩ (by simp;omega) (Ne.symm nbvI)).trans (ca _);have g4:=(hgrowI.frozen_far ⟨w.heap.size,3,none⟩ (by simp;omega) (Ne.symm nbvI)).trans (fa _)))
       all_goals
        have hstI:=HST.out.push 3 _ rfl (by omega) (.cells #[.string a1.word,.int .i64 ((n:Int)+1),.bool true,.bool false,.int .i64 0,.int .i64 0] 106) hgrowI hown3I hatI
        have hstI':St w (wI.setCell ⟨w.heap.size,3,none⟩ (.slice (some ⟨ggI,0,none⟩) (I.length+1) capI)) w.heap.size N (.slice (some ⟨g,0,none⟩) ts.length cap) (RRw ts.length EE v vA (.slice (some ⟨ggI,0,none⟩) (I.length+1) capI) vQ A (I ++ [⟨a1.word,n+1,true,false,0,0⟩]) Q) ⟨a1.word,n+1,true,false,0,0⟩:=by
         rw [← RRw_put3];exact hstI
        obtain ⟨W2,hW2⟩:∃ W2,W2=wI.setCell ⟨w.heap.size,3,none⟩ (.slice (some ⟨ggI,0,none⟩) (I.length+1) capI):=⟨_,rfl⟩
        rw [← hW2] at hstI' ⊢
        have HST2:=hide hstI'
        obtain ⟨hN2,hq2,e0,e1,e2,e3,e4,e5⟩:=hstI'.cells
        clear hstI hstI' hW2 hgrowI hown3I hatI HST ca fa
        have hb2:=HST2.out.bel.size
        go_wp2_with fail
        obtain ⟨ca,fa,cA,fA,hownA,nbvA⟩:=HST2.out.row 2 ⟨vA,106,6,A.length,rdCells A⟩ rfl (by omega)
        go_region_law ((refine step_append_lies _ (by rfl) _ _ _ (by rfl) w.heap.size 106 i5 _ 6 48 Tryz.underlying101 hi5 hy0 hy1 hy2 rfl (by omega) vA A.length (rdCells A) (by rfl) ((hownA.alloc _).drew) ⟨W2.heap.size,0,none⟩ 1 1 [.string a1.word,.int .i64 ((n:Int)+1),.bool true,.bool false,.int .i64 0,.int .i64 0] (by rfl) (by rfl) (World.news_of_block (cs:=#[.string a1.word,.int .i64 ((n:Int)+1),.bool true,.bool false,.int .i64 0,.int .i64 0]) (t:=106) (fr:=(0,0)) (heap_alloc_new W2 _)) (by simp [Value.oneCell']) (by omega) (by unfold maxLen;omega) (by omega) (by simp;omega) (W2.heap.size+1) (by simp) ?_;intro ggA capA wA hown3A hgrowA hatA hlt3A;have k4:=(hgrowA.cell_far ⟨w.heap.size,2,none⟩ (by simp;omega) (Ne.symm nbvA)).trans (ca _);have g4:=(hgrowA.frozen_far ⟨w.heap.size,2,none⟩ (by simp;omega) (Ne.symm nbvA)).trans (fa _)))
        all_goals
         have hstA:=HST2.out.push 2 _ rfl (by omega) (.cells #[.string a1.word,.int .i64 ((n:Int)+1),.bool true,.bool false,.int .i64 0,.int .i64 0] 106) hgrowA hown3A hatA
         have hstA':St w (wA.setCell ⟨w.heap.size,2,none⟩ (.slice (some ⟨ggA,0,none⟩) (A.length+1) capA)) w.heap.size N (.slice (some ⟨g,0,none⟩) ts.length cap) (RRw ts.length EE v (.slice (some ⟨ggA,0,none⟩) (A.length+1) capA) (.slice (some ⟨ggI,0,none⟩) (I.length+1) capI) vQ (A ++ [⟨a1.word,n+1,true,false,0,0⟩]) (I ++ [⟨a1.word,n+1,true,false,0,0⟩]) Q) ⟨a1.word,n+1,true,false,0,0⟩:=by
          rw [← RRw_put2];exact hstA
         obtain ⟨W3,hW2⟩:∃ W2,W2=wA.setCell ⟨w.heap.size,2,none⟩ (.slice (some ⟨ggA,0,none⟩) (A.length+1) capA):=⟨_,rfl⟩
         rw [← hW2] at hstA' ⊢
         have HST3:=hide hstA'
         obtain ⟨hN2,hq2,e0,e1,e2,e3,e4,e5⟩:=hstA'.cells
         clear hstA hstA' hW2 hgrowA hown3A hatA HST2 ca fa
         have hb2:=HST3.out.bel.size
         clear e0 e1 e2 e3 e4 e5
         go_wp2
         go_roundw
         case rel=>
          obtain ⟨hA,hI,hQ⟩:=HLS.out
          have hd:=HD.out
          have hk:=HK.out
          have e1:(L1 ++ [x]).map (rdc ts)=A ++ [⟨a1.word,n+1,true,false,0,0⟩]:=by rw [List.map_append,hA,List.map_singleton,hd]
          have e2:(inL (L1 ++ [x])).map (rdc ts)=I ++ [⟨a1.word,n+1,true,false,0,0⟩]:=by
           rw [show inL (L1 ++ [x])=inL L1 ++ [x] by simp [inL,hk],List.map_append,hI,List.map_singleton,hd]
          have e3:(eqL (L1 ++ [x])).map (rdc ts)=Q:=by
           rw [show eqL (L1 ++ [x])=eqL L1 by simp [eqL,hk],hQ]
          refine ⟨n+3,L1 ++ [x],r,.slice (some ⟨ggA,0,none⟩) (A.length+1) capA,.slice (some ⟨ggI,0,none⟩) (I.length+1) capI,vQ,by rw [HS.out];simp,by rw [← hl3];exact hsp',by go_num,by omega,?_,by simp;omega,HST3.out.bel⟩
          rw [e1,e2,e3]
          exact HST3.out.rp
         case measure=>simp [intOf];omega
     ·have hl6:x.len=x.t.len+6:=by unfold Dl.len;rw [if_neg hk]
      have heq:((x.kind=1∧lAt ts n=kInt)∨(x.kind=2∧lAt ts n=kBool))∧(tkAt ts (n+1)).kind=1∧(tkAt ts (n+3)).kind=3∧Sp ts x.t (n+5):=by
       rcases hxo with ⟨h,_⟩ | ⟨h0,h1,_,h3,_,h5,_⟩
       ·exact absurd h hk
       ·rw [hxi] at h0 h1 h3 h5;exact ⟨h0,h1,h3.1,h5⟩
      obtain ⟨h0,hk1,hk3,hspx⟩:=heq
      have hnin:a0.l≠kIn:=fun h=>by
       have h':=hk0.1 h
       have h'':lAt ts n=kIn:=h'
       rcases h0 with ⟨_,h0⟩ | ⟨_,h0⟩ <;> rw [h0] at h'' <;> exact absurd h'' (by decide)
      have q1:=str_no (t:=a0.word) hnin
      simp only [kIn] at q1
      have hkb:=(HF.out n).kw kBool (by decide)
      rw [← ha0] at hkb
      have hqb:(a0.word.toList == [98,111,111,108])=(x.kind == 2):=by
       rcases h0 with ⟨h1,h2⟩ | ⟨h1,h2⟩
       ·rw [h1]
        exact str_no (t:=a0.word) (l:=kBool) (fun h=>by
         have h':lAt ts n=kBool:=hkb.1 h
         rw [h2] at h';exact absurd h' (by decide))
       ·rw [h1]
        have:=str_yes (t:=a0.word) (l:=kBool) (hkb.2 h2)
        rw [this];rfl
      generalize hT:(x.kind == 2)=tr at hqb
      obtain ⟨a3,ha3⟩:∃ a,a=rtok (tkAt ts (n+3)):=⟨_,rfl⟩
      have hw1:a1.word=nameD ts x:=by rw [ha1];unfold rtok nameD;simp [hk1,hxi]
      have hn3:a3.n=placeD ts x:=by rw [ha3];unfold placeD;rw [rn3 hk3,hxi]
      have hpv:a3.n<4:=by
       rw [hn3]
       rcases hxo with ⟨h,_⟩ | ⟨_,_,_,h3,_,_,_⟩
       ·exact absurd h hk
       ·exact h3.2
      have hbe:behindF ts (n+5)=n+5+x.t.len:=behind_sp HF.out x.t (n+5) hspx (by omega)
      have HD:Hid (rdc ts x=⟨a1.word,n+1,false,tr,a3.n,n+5⟩):=hide (by unfold rdc;rw [if_neg hk,hw1,hxi,hT,hn3])
      have HK:=hide hk
      have h5:(n:Int)+5<(ts.length:Int):=by omega
      have HBE:=hide hbe
      have HA3:=hide ha3
      have HA0:=hide ha0
      clear hk0 hnin hw1 ha0 ha1 hxo hrp hk h0 hk1 hk3 hspx hT hkb ha3 hn3 hbe
      go_wp2_with fail
      go_big_region
      have hst0:St w (wr.alloc (.cells #[.string a1.word,.int .i64 ((n:Int)+1),.bool false,.bool false,.int .i64 0,.int .i64 0] 106)).drew w.heap.size wr.heap.size (.slice (some ⟨g,0,none⟩) ts.length cap) (RRw ts.length EE v vA vI vQ A I Q) ⟨a1.word,n+1,false,false,0,0⟩:=
       ⟨HRP.out.below (((Below.refl _ _).alloc (Nat.le_refl _) _).drew),heap_alloc_new wr _,by omega,fun f hk=>by have:=((HRP.out.own f).lt _ hk).2;omega,(hbel.alloc hbel.size _).drew,Nat.le_refl _⟩
      obtain ⟨W,hW⟩:∃ W,W=(wr.alloc (.cells #[.string a1.word,.int .i64 ((n:Int)+1),.bool false,.bool false,.int .i64 0,.int .i64 0] 106)).drew:=⟨_,rfl⟩
      rw [← hW] at hst0 ⊢
      generalize wr.heap.size=N at hst0 hbs ⊢
      have HST:=hide hst0
      obtain ⟨hNW,hqW,e0,e1,e2,e3,e4,e5⟩:=hst0.cells
      clear hst0 hW x0 x1 x2 x3 y0 y1 y2 y3 xa ya hq HRP hgw hbel
      have hbW:=HST.out.bel.size
      have hgW:g<W.heap.size:=by have:=HT.out.lt;omega
      have tc:∀ k (hk:k<ts.length) (a:RTk),a=rtok (tkAt ts k)→W.cell? ⟨g,k * 4+1,none⟩=some (.string a.word)∧W.cell? ⟨g,k * 4+3,none⟩=some (.int .i64 (a.n:Int)):=fun k hk a ha=>⟨(HT.out.cells HST.out.bel hk a ha).2.1,(HT.out.cells HST.out.bel hk a ha).2.2.2⟩
      have w0:=(tc n (by omega) a0 HA0.out).1
      have w3:=(tc (n+3) (by omega) a3 HA3.out).2
      have hgN:g≠N:=by have:=HT.out.lt;have:=HST.out.nq;omega
      have fr:∀ k,W.frozen? ⟨N,k,none⟩=false:=fun k=>frozen_of_row W N k _ _ HST.out.blk
      have fr3:=fr 3
      have fr4:=fr 4
      have fr5:=fr 5
      clear tc fr
      go_wp2_with fail
      have hst1:=HST.out.poke hbs tr a3.n (n+5)
      obtain ⟨W1,hW1⟩:∃ W1,W1=(((W.setCell ⟨N,3,none⟩ (.bool tr)).setCell ⟨N,4,none⟩ (.int .i64 (a3.n:Int))).setCell ⟨N,5,none⟩ (.int .i64 (((n+5:Nat)):Int))):=⟨_,rfl⟩
      rw [← hW1] at hst1
      rw [show (((W.setCell ⟨N,3,none⟩ (.bool tr)).setCell ⟨N,4,none⟩ (.int .i64 (a3.n:Int))).setCell ⟨N,5,none⟩ (.int .i64 ((n:Int)+5)))=W1 from hW1.symm]
      have HS1:=hide hst1
      clear hst1 hW1 w0 w3 hgW hgN e0 e1 e2 e3 e4 e5 fr3 fr4 fr5 HST hqb q1 hNW hqW hbW
      obtain ⟨hNW,hqW,e0,e1,e2,e3,e4,e5⟩:=HS1.out.cells
      have hbW:=HS1.out.bel.size
      obtain ⟨ca,fa,cQ,fQ,hownQ,nbvQ⟩:=HS1.out.row 4 ⟨vQ,106,6,Q.length,rdCells Q⟩ rfl (by omega)
      go_region_law ((refine step_append_lies _ (by rfl) _ _ _ (by rfl) w.heap.size 106 i5 _ 6 48 Tryz.underlying101 hi5 hy0 hy1 hy2 rfl (by omega) vQ Q.length (rdCells Q) (by rfl) ((hownQ.alloc _).drew) ⟨W1.heap.size,0,none⟩ 1 1 [.string a1.word,.int .i64 ((n:Int)+1),.bool false,.bool tr,.int .i64 (a3.n:Int),.int .i64 ((n:Int)+5)] (by rfl) (by rfl) (World.news_of_block (cs:=#[.string a1.word,.int .i64 ((n:Int)+1),.bool false,.bool tr,.int .i64 (a3.n:Int),.int .i64 ((n:Int)+5)]) (t:=106) (fr:=(0,0)) (heap_alloc_new W1 _)) (by simp [Value.oneCell']) (by omega) (by unfold maxLen;omega) (by omega) (by simp;omega) (W1.heap.size+1) (by simp) ?_;intro ggQ capQ wQ hown3Q hgrowQ hatQ hlt3Q;have k4:=(hgrowQ.cell_far ⟨w.heap.size,4,none⟩ (by simp;omega) (Ne.symm nbvQ)).trans (ca _);have g4:=(hgrowQ.frozen_far ⟨w.heap.size,4,none⟩ (by simp;omega) (Ne.symm nbvQ)).trans (fa _)))
      all_goals
       have hstQ:=HS1.out.push 4 _ rfl (by omega) (.cells #[.string a1.word,.int .i64 ((n:Int)+1),.bool false,.bool tr,.int .i64 (a3.n:Int),.int .i64 ((n:Int)+5)] 106) hgrowQ hown3Q hatQ
       have hstQ':St w (wQ.setCell ⟨w.heap.size,4,none⟩ (.slice (some ⟨ggQ,0,none⟩) (Q.length+1) capQ)) w.heap.size N (.slice (some ⟨g,0,none⟩) ts.length cap) (RRw ts.length EE v vA vI (.slice (some ⟨ggQ,0,none⟩) (Q.length+1) capQ) A I (Q ++ [⟨a1.word,n+1,false,tr,a3.n,n+5⟩])) ⟨a1.word,n+1,false,tr,a3.n,n+5⟩:=by
        rw [← RRw_put4];exact hstQ
       obtain ⟨W2,hW2⟩:∃ W2,W2=wQ.setCell ⟨w.heap.size,4,none⟩ (.slice (some ⟨ggQ,0,none⟩) (Q.length+1) capQ):=⟨_,rfl⟩
       rw [← hW2] at hstQ' ⊢
       have HST2:=hide hstQ'
       obtain ⟨hN2,hq2,e0,e1,e2,e3,e4,e5⟩:=hstQ'.cells
       clear hstQ hstQ' hW2 hgrowQ hown3Q hatQ HS1 ca fa
       have hb2:=HST2.out.bel.size
       obtain ⟨_,_,cE,fE,hownE,nbE⟩:=HST2.out.row 1 ⟨v,3,1,ts.length,EE⟩ rfl (by omega)
       obtain ⟨gE,capE,hvE,hgE1,hgE2⟩:=hownE.form (show 0<ts.length by omega)
       have hvE':v = .slice (some ⟨gE,0,none⟩) ts.length capE:=hvE
       subst hvE'
       have rE:W2.cell? ⟨gE,n+5,none⟩=some (.int .i64 ((n+5+x.t.len:Nat):Int)):=by
        have:=hownE.cellAt (n+5) (by simp;omega)
        rw [this]
        show EE[n+5]? = _
        rw [← HEE.out]
        unfold pCells
        rw [List.getElem?_map,List.getElem?_map,List.getElem?_range (by omega)]
        simp [HBE.out]
       have i6:(0:Int)≤(n:Int)+5:=by omega
       obtain ⟨tl,htl⟩:∃ tl,tl=x.t.len:=⟨_,rfl⟩
       rw [← htl] at rE hl6
       have htl2:tl≤1501:=by omega
       have HTL:=hide htl
       clear htl hvE hownE nbE fE
       go_wp2_with fail
       go_quiet (fail)
       go_wp2_with fail
       have hst4:St w (W2.drewN nq) w.heap.size N (.slice (some ⟨g,0,none⟩) ts.length cap) (RRw ts.length EE (.slice (some ⟨gE,0,none⟩) ts.length capE) vA vI (.slice (some ⟨ggQ,0,none⟩) (Q.length+1) capQ) A I (Q ++ [⟨a1.word,n+1,false,tr,a3.n,n+5⟩])) ⟨a1.word,n+1,false,tr,a3.n,n+5⟩:=HST2.out.below (below_drewN (Below.refl _ _) _)
       obtain ⟨W4,hW4⟩:∃ W4,W4=W2.drewN nq:=⟨_,rfl⟩
       rw [← hW4] at hst4 ⊢
       have HST4:=hide hst4
       clear hst4 hW4 HST2 rE cE e0 e1 e2 e3 e4 e5 hN2 hq2 hb2
       obtain ⟨hN2,hq2,e0,e1,e2,e3,e4,e5⟩:=HST4.out.cells
       have hb2:=HST4.out.bel.size
       obtain ⟨ca,fa,cA,fA,hownA,nbvA⟩:=HST4.out.row 2 ⟨vA,106,6,A.length,rdCells A⟩ rfl (by omega)
       go_region_law ((refine step_append_lies _ (by rfl) _ _ _ (by rfl) w.heap.size 106 i5 _ 6 48 Tryz.underlying101 hi5 hy0 hy1 hy2 rfl (by omega) vA A.length (rdCells A) (by rfl) ((hownA.alloc _).drew) ⟨W4.heap.size,0,none⟩ 1 1 [.string a1.word,.int .i64 ((n:Int)+1),.bool false,.bool tr,.int .i64 (a3.n:Int),.int .i64 ((n:Int)+5)] (by rfl) (by rfl) (World.news_of_block (cs:=#[.string a1.word,.int .i64 ((n:Int)+1),.bool false,.bool tr,.int .i64 (a3.n:Int),.int .i64 ((n:Int)+5)]) (t:=106) (fr:=(0,0)) (heap_alloc_new W4 _)) (by simp [Value.oneCell']) (by omega) (by unfold maxLen;omega) (by omega) (by simp;omega) (W4.heap.size+1) (by simp) ?_;intro ggA capA wA hown3A hgrowA hatA hlt3A;have k4:=(hgrowA.cell_far ⟨w.heap.size,2,none⟩ (by simp;omega) (Ne.symm nbvA)).trans (ca _);have g4:=(hgrowA.frozen_far ⟨w.heap.size,2,none⟩ (by simp;omega) (Ne.symm nbvA)).trans (fa _)))
       all_goals
        have hstA:=HST4.out.push 2 _ rfl (by omega) (.cells #[.string a1.word,.int .i64 ((n:Int)+1),.bool false,.bool tr,.int .i64 (a3.n:Int),.int .i64 ((n:Int)+5)] 106) hgrowA hown3A hatA
        have hstA':St w (wA.setCell ⟨w.heap.size,2,none⟩ (.slice (some ⟨ggA,0,none⟩) (A.length+1) capA)) w.heap.size N (.slice (some ⟨g,0,none⟩) ts.length cap) (RRw ts.length EE (.slice (some ⟨gE,0,none⟩) ts.length capE) (.slice (some ⟨ggA,0,none⟩) (A.length+1) capA) vI (.slice (some ⟨ggQ,0,none⟩) (Q.length+1) capQ) (A ++ [⟨a1.word,n+1,false,tr,a3.n,n+5⟩]) I (Q ++ [⟨a1.word,n+1,false,tr,a3.n,n+5⟩])) ⟨a1.word,n+1,false,tr,a3.n,n+5⟩:=by
         rw [← RRw_put2];exact hstA
        obtain ⟨W3,hW2⟩:∃ W2,W2=wA.setCell ⟨w.heap.size,2,none⟩ (.slice (some ⟨ggA,0,none⟩) (A.length+1) capA):=⟨_,rfl⟩
        rw [← hW2] at hstA' ⊢
        have HST3:=hide hstA'
        obtain ⟨hN2,hq2,e0,e1,e2,e3,e4,e5⟩:=hstA'.cells
        clear hstA hstA' hW2 hgrowA hown3A hatA HST4 ca fa
        have hb2:=HST3.out.bel.size
        clear e0 e1 e2 e3 e4 e5
        go_wp2
        go_roundw
        case rel=>
         obtain ⟨hA,hI,hQ⟩:=HLS.out
         have hd:=HD.out
         have hk:=HK.out
         have e1:(L1 ++ [x]).map (rdc ts)=A ++ [⟨a1.word,n+1,false,tr,a3.n,n+5⟩]:=by rw [List.map_append,hA,List.map_singleton,hd]
         have e2:(inL (L1 ++ [x])).map (rdc ts)=I:=by
          rw [show inL (L1 ++ [x])=inL L1 by simp [inL,hk],hI]
         have e3:(eqL (L1 ++ [x])).map (rdc ts)=Q ++ [⟨a1.word,n+1,false,tr,a3.n,n+5⟩]:=by
          rw [show eqL (L1 ++ [x])=eqL L1 ++ [x] by simp [eqL,hk],List.map_append,hQ,List.map_singleton,hd]
         refine ⟨n+x.len,L1 ++ [x],r,.slice (some ⟨ggA,0,none⟩) (A.length+1) capA,vI,.slice (some ⟨ggQ,0,none⟩) (Q.length+1) capQ,by rw [HS.out];simp,hsp',by rw [hl6];go_num,by omega,?_,by simp;omega,HST3.out.bel⟩
         rw [e1,e2,e3]
         exact HST3.out.rp
        case measure=>simp [intOf];omega
end Go.Proofs.YtmndgoapkmhglabGreat
