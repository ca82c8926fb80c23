import Derived.Test.YtmndgoapkmhglaaGreatM16JudM
import Derived.Test.YtmndgoapkmhglaaGreatM20OpC
import Derived.Test.YtmndgoapkmhglaaGreatM23WrC
import Derived.Test.YtmndgoapkmhglaaGreatM30RefH
import Derived.Test.YtmndgoapkmhglaaGreatM31RefK
import Derived.Test.YtmndgoapkmhglaaGreatM32RefP
import Derived.Test.YtmndgoapkmhglaaGreatM33RefT
import Derived.Test.YtmndgoapkmhglaaGreatM41CdA
import Derived.Test.YtmndgoapkmhglaaGreatM42RefX
import Derived.Test.YtmndgoapkmhglaaGreatM44TabF
namespace Go.Proofs.YtmndgoapkmhglaaGreat
open Go.RowKit
attribute [local go_sem ↓] Go.wp_at_zero Go.wp_at_succ
theorem RPV.prog {w':World}{B q g cap:Nat}{ts:List Tk}{L:List Dl}{R:Nat→Rw} (h:RPV w' B q (.slice (some ⟨g,0,none⟩) ts.length cap) R) (ht:TokAt w' g cap ts)
  (h1:(R 1).e=3∧(R 1).sz=1∧(R 1).n=ts.length∧(R 1).xs=pCells ((List.range ts.length).map (behindF ts)))
  (h2:(R 2).e=105∧(R 2).sz=6∧(R 2).n=L.length∧(R 2).xs=rdCells (L.map (rdc ts)))
  (h3:(R 3).e=105∧(R 3).sz=6∧(R 3).n=(inL L).length∧(R 3).xs=rdCells ((inL L).map (rdc ts)))
  (h4:(R 4).e=105∧(R 4).sz=6∧(R 4).n=(eqL L).length∧(R 4).xs=rdCells ((eqL L).map (rdc ts))) :
  RProg w' q g cap ts L (R 1).v (R 2).v (R 3).v (R 4).v:=by
 have o1:=own_zero (h.own 1)
 have o2:=own_zero (h.own 2)
 have o3:=own_zero (h.own 3)
 have o4:=own_zero (h.own 4)
 rw [h1.1,h1.2.1,h1.2.2.1,h1.2.2.2] at o1
 rw [h2.1,h2.2.1,h2.2.2.1,h2.2.2.2] at o2
 rw [h3.1,h3.2.1,h3.2.2.1,h3.2.2.2] at o3
 rw [h4.1,h4.2.1,h4.2.2.1,h4.2.2.2] at o4
 exact ⟨h.lt,cell_of_row w' q 0 _ _ _ h.blk,cell_of_row w' q 1 _ _ _ h.blk,cell_of_row w' q 2 _ _ _ h.blk,cell_of_row w' q 3 _ _ _ h.blk,cell_of_row w' q 4 _ _ _ h.blk,ht,o1,o2,o3,o4⟩
def ReadOk (s:ByteArray) (w:World) (p:Value) (w':World):Prop:=
 Below w.heap.size w w'∧((textF s).1=0→∃ (q g cap:Nat) (L:List Dl) (vE vA vI vQ:Value),p = .pointer (some ⟨q,0,none⟩)∧RProg w' q g cap (toks s) L vE vA vI vQ∧ROk (toks s) L∧RGood s L)
set_option maxHeartbeats 2000000 in
set_option maxRecDepth 100000 in
theorem rread_any (s:ByteArray) (w:World) :
  Calls Tryz.prog 23 #[.string s] w fun e w'=>∃ p,e = .returned (.tuple #[p,.int .i64 ((textF s).1:Int),.int .i64 ((textF s).2:Int)])∧ReadOk s w p w':=by
 by_cases hs:s.size≤1500
 case neg=>
  have ht:textF s=(1,0):=by unfold textF;rw [if_pos (by omega)]
  have HT:=hide ht
  have z1:(1500:Int)<(s.size:Int):=by omega
  clear ht
  go_enter Tryz.func23,Tryz.ntmps23
  go_wp2
  go_ret3
  exact ⟨_,by rw [HT.out];rfl,Below.refl _ _,fun h=>by rw [HT.out] at h;cases h⟩
 have z1:¬ (1500:Int)<(s.size:Int):=by omega
 have hok:=toks_ok s hs
 have hF:=toks_F s
 have hE:=toks_end s
 have hp:∀ i,(tkAt (toks s) i).pos≤1500:=fun i=>Nat.le_trans (pos_le s i) hs
 have HREF:=hide (text_read s hs)
 have HTS:=hide (fun W=>rtokens_any s W hs)
 have hrl:(rtoks s).length=(toks s).length:=by unfold rtoks;rw [List.length_map]
 have HFE:=hide (And.intro hF (And.intro hE (And.intro hp hok)))
 have HRL:=hide hrl
 clear hF hE hp hok hrl
 go_enter Tryz.func23,Tryz.ntmps23
 go_wp2_with fail
 refine (HTS.out w).mono ?_
 rintro e w1 ⟨v,rfl,hown,hb1⟩
 rw [HRL.out] at hown
 obtain ⟨g,cap,rfl,hg1,hg2⟩:=hown.form HFE.out.2.2.2.pos
 have HTK:Hid (TokAt w1 g cap (toks s)):=hide ⟨own_zero hown,hg2⟩
 clear hown HTS
 rcases HREF.out with ⟨k,hkl,ht,n,hans⟩ | ⟨L,hsp,⟨n,hans⟩,ht,hpar⟩
 ·have HT:=hide ht
  have HAN:=hide hans
  have hpk:=HFE.out.2.2.1 k
  generalize (tkAt (toks s) k).pos=ps at HT HAN hpk
  have z2:(0:Int)≤(ps:Int):=by omega
  clear ht hans HREF
  go_wp2_with fail
  refine (stands_any (toks s) n (ps:Int) w1 g cap HTK.out HFE.out.1 HFE.out.2.2.2.1 HAN.out).mono ?_
  rintro e2 w2 ⟨rfl,hb2⟩
  have HB:=hide (hb1.trans (hb2.mono hb1.size))
  clear hb1 hb2
  go_wp2
  go_ret3
  exact ⟨_,by rw [HT.out];rfl,HB.out,fun h=>by rw [HT.out] at h;cases h⟩
 ·have HT:=hide ht
  have HAN:=hide hans
  have HOK:Hid (ROk (toks s) L):=hide ⟨HFE.out.1,HFE.out.2.1,HFE.out.2.2.2.1,HFE.out.2.2.2.pos,hsp⟩
  have HSP:=hide hsp
  have HPAR:=hide hpar
  clear ht hans HREF hsp hpar
  go_wp2_with fail
  refine (stands_any (toks s) n (-1) w1 g cap HTK.out HFE.out.1 HFE.out.2.2.2.1 HAN.out).mono ?_
  rintro e2 w2 ⟨rfl,hb2⟩
  have hbw2:Below w.heap.size w w2:=hb1.trans (hb2.mono hb1.size)
  have HTK2:=hide (HTK.out.below hb2)
  clear hb1 hb2 HTK
  go_wp2_with fail
  refine (program_any (toks s) L w2 g cap HTK2.out HFE.out.1 HFE.out.2.1 HFE.out.2.2.2.1 HSP.out).mono ?_
  rintro e3 w3 ⟨rfl,R,hrp,r1,r2,r3,r4,hb3⟩
  have hbw3:Below w.heap.size w w3:=hbw2.trans (hb3.mono hbw2.size)
  have HRP:=hide (hrp.prog (HTK2.out.below hb3) r1 r2 r3 r4)
  generalize w2.heap.size=q at HRP ⊢
  generalize (R 1).v=vE at HRP
  generalize (R 2).v=vA at HRP
  generalize (R 3).v=vI at HRP
  generalize (R 4).v=vQ at HRP
  clear hrp r1 r2 r3 r4 hb3 hbw2 HTK2
  go_wp2_with fail
  refine (rmany_any w3 q g cap (toks s) L vE vA vI vQ HRP.out HOK.out HFE.out.2.2.1).mono ?_
  rintro e4 w4 ⟨rfl,hb4⟩
  have HRP4:=hide (HRP.out.below hb4)
  have hbw4:Below w.heap.size w w4:=hbw3.trans (hb4.mono hbw3.size)
  clear hb4 hbw3 HRP
  cases h1:manyR (toks s) L with
  | some a=>
   have HF:Hid (textF s=(3,a)):=hide (by rw [HT.out];unfold readR;rw [h1])
   simp only [optI]
   have z2:(0:Int)≤(a:Int):=by omega
   clear h1
   go_wp2
   go_ret3
   exact ⟨_,by rw [HF.out];rfl,hbw4,fun h=>by rw [HF.out] at h;cases h⟩
  | none=>
   have H1:=hide h1
   simp only [optI]
   clear h1
   go_wp2_with fail
   refine (rnames_any w4 q g cap (toks s) L vE vA vI vQ HRP4.out HOK.out HFE.out.2.2.1).mono ?_
   rintro e5 w5 ⟨rfl,hb5⟩
   have HRP5:=hide (HRP4.out.below hb5)
   have hbw5:Below w.heap.size w w5:=hbw4.trans (hb5.mono hbw4.size)
   clear hb5 hbw4 HRP4
   cases h2:namesR (toks s) L with
   | some a=>
    have HF:Hid (textF s=(4,a)):=hide (by rw [HT.out];unfold readR;rw [H1.out];simp only;rw [h2])
    simp only [optI]
    have z2:(0:Int)≤(a:Int):=by omega
    clear h2
    go_wp2
    go_ret3
    exact ⟨_,by rw [HF.out];rfl,hbw5,fun h=>by rw [HF.out] at h;cases h⟩
   | none=>
    have H2:=hide h2
    simp only [optI]
    clear h2
    go_wp2_with fail
    refine (rtypes_any w5 q g cap (toks s) L vE vA vI vQ HRP5.out HOK.out HFE.out.2.2.1).mono ?_
    rintro e6 w6 ⟨rfl,hb6⟩
    have HRP6:=hide (HRP5.out.below hb6)
    have hbw6:Below w.heap.size w w6:=hbw5.trans (hb6.mono hbw5.size)
    clear hb6 hbw5 HRP5
    cases h3:typesR (toks s) L with
    | some a=>
     have HF:Hid (textF s=(5,a)):=hide (by rw [HT.out];unfold readR;rw [H1.out];simp only;rw [H2.out];simp only;rw [h3])
     simp only [optI]
     have z2:(0:Int)≤(a:Int):=by omega
     clear h3
     go_wp2
     go_ret3
     exact ⟨_,by rw [HF.out];rfl,hbw6,fun h=>by rw [HF.out] at h;cases h⟩
    | none=>
     have H3:=hide h3
     simp only [optI]
     clear h3
     go_wp2_with fail
     refine (rcycle_any w6 q g cap (toks s) L vE vA vI vQ HRP6.out HOK.out).mono ?_
     rintro e7 w7 ⟨rfl,hb7⟩
     have HRP7:=hide (HRP6.out.below hb7)
     have hbw7:Below w.heap.size w w7:=hbw6.trans (hb7.mono hbw6.size)
     clear hb7 hbw6 HRP6
     cases h4:cycR (toks s) L with
     | some a=>
      have HF:Hid (textF s=(6,a)):=hide (by rw [HT.out];unfold readR;rw [H1.out];simp only;rw [H2.out];simp only;rw [H3.out];simp only;rw [h4])
      simp only [optI]
      have z2:(0:Int)≤(a:Int):=by omega
      clear h4
      go_wp2
      go_ret3
      exact ⟨_,by rw [HF.out];rfl,hbw7,fun h=>by rw [HF.out] at h;cases h⟩
     | none=>
      have H4:=hide h4
      simp only [optI]
      clear h4
      go_wp2_with fail
      refine (rloop_any w7 q g cap (toks s) L vE vA vI vQ HRP7.out HOK.out).mono ?_
      rintro e8 w8 ⟨rfl,hb8⟩
      have HRP8:=hide (HRP7.out.below hb8)
      have hbw8:Below w.heap.size w w8:=hbw7.trans (hb8.mono hbw7.size)
      clear hb8 hbw7 HRP7
      cases h5:lpR (toks s) L with
      | some a=>
       have HF:Hid (textF s=(7,a)):=hide (by rw [HT.out];unfold readR;rw [H1.out];simp only;rw [H2.out];simp only;rw [H3.out];simp only;rw [H4.out];simp only;rw [h5])
       simp only [optI]
       have z2:(0:Int)≤(a:Int):=by omega
       clear h5
       go_wp2
       go_ret3
       exact ⟨_,by rw [HF.out];rfl,hbw8,fun h=>by rw [HF.out] at h;cases h⟩
      | none=>
       have HF:Hid (textF s=(0,0)):=hide (by rw [HT.out];unfold readR;rw [H1.out];simp only;rw [H2.out];simp only;rw [H3.out];simp only;rw [H4.out];simp only;rw [h5])
       have H5:=hide h5
       simp only [optI]
       clear h5
       go_wp2
       go_ret3
       exact ⟨_,by rw [HF.out];rfl,hbw8,fun _=>⟨q,g,cap,L,vE,vA,vI,vQ,rfl,HRP8.out,HOK.out,⟨H1.out,H2.out,H3.out,H4.out,H5.out,HSP.out,HPAR.out⟩⟩⟩
theorem Tryz.infoInts:(Tryz.prog.info? 34).map (fun i=>(i.zero,i.size,i.bytes))=some (some (.slice none 0 0),1,24):=by kernel_rfl
theorem rows_mat {w':World}{B m n:Nat}{v:Value}{rs:List Nat} (hl:rs.length=m) (hown:w'.ownsRow B 34 1 v m (rowSl n rs)) (hrows:∀ r∈rs,B≤r∧v.ownBlock≠some r∧w'.rowIs r 3 n (fun _=>.int .i64 0)) (hnd:rs.Nodup) :
  ∃ (a:Option Addr) (g cap:Nat) (R:Nat→Nat),v = .slice a m cap∧(0<m→a=some ⟨g,0,none⟩∧v.ownBlock=some g)∧MatI w' g m n R (fun _ _=>0)∧(∀ i,i<m→B≤R i∧R i∈rs)∧B≤g:=by
 rcases Nat.eq_zero_or_pos m with hz | hp
 ·obtain ⟨a,cap,hv,_⟩:=own_shape hown
  refine ⟨a,B,cap,fun _=>0,hv,fun h=>by omega,⟨fun i hi=>by omega,fun i hi=>by omega,fun i j hi=>by omega,fun i hi=>by omega⟩,fun i hi=>by omega,Nat.le_refl _⟩
 ·obtain ⟨g,cap,rfl,h1,h2⟩:=hown.form hp
  have hat:∀ i,(hi:i<m)→rs[i]'(by omega)∈rs:=fun i hi=>List.getElem_mem _
  have hgd:∀ i,(hi:i<m)→rs.getD i 0=rs[i]'(by omega):=fun i hi=>by rw [List.getD_eq_getElem?_getD,List.getElem?_eq_getElem (by omega)];rfl
  refine ⟨some ⟨g,0,none⟩,g,cap,fun i=>rs.getD i 0,rfl,fun _=>⟨rfl,rfl⟩,⟨fun i hi=>?_,fun i hi=>?_,fun i j hi hj e=>?_,fun i hi e=>?_⟩,fun i hi=>?_,h1⟩
  ·rw [hown.cellAt i (by omega)]
   unfold rowSl
   rw [List.getElem?_map,List.getElem?_eq_getElem (by omega)]
   show some _=some (Value.slice (some ⟨rs.getD i 0,0,none⟩) n n)
   rw [hgd i hi]
  ·show w'.rowIs (rs.getD i 0) _ _ _
   rw [hgd i hi]
   exact (hrows _ (hat i hi)).2.2
  ·have e':rs.getD i 0=rs.getD j 0:=e
   rw [hgd i hi,hgd j hj] at e'
   rcases Nat.lt_trichotomy i j with hh | hh | hh
   ·exact absurd e' ((List.pairwise_iff_getElem.1 hnd) i j (by omega) (by omega) hh)
   ·exact hh
   ·exact absurd e'.symm ((List.pairwise_iff_getElem.1 hnd) j i (by omega) (by omega) hh)
  ·have e':rs.getD i 0=g:=e
   rw [hgd i hi] at e'
   exact (hrows _ (hat i hi)).2.1 (by rw [e'];rfl)
  ·show B≤rs.getD i 0∧rs.getD i 0∈rs
   rw [hgd i hi]
   exact ⟨(hrows _ (hat i hi)).1,hat i hi⟩
structure Made (w wr:World) (q n k:Nat) (vX:Value) (v:Value) (rs:List Nat):Prop where
 bel:Below w.heap.size w wr
 lt:w.heap.size<wr.heap.size
 blk:wr.heap[w.heap.size]? = some (.cells #[.pointer (some ⟨q,0,none⟩),vX,v,.int .i64 0,.slice none 0 0] 99)
 len:rs.length=k
 own:wr.ownsRow (w.heap.size+1) 34 1 v k (rowSl n rs)
 rows:∀ r∈rs,w.heap.size+1≤r∧v.ownBlock≠some r∧wr.rowIs r 3 n (fun _=>.int .i64 0)
 nd:rs.Nodup
set_option maxHeartbeats 4000000 in
set_option maxRecDepth 100000 in
theorem rstreams_any (w:World) (q g cap:Nat) (ts:List Tk) (L:List Dl) (vE vA vI vQ vX:Value) (ins:List (List Int)) (h:RProg w q g cap ts L vE vA vI vQ) (hX:LsAt w vX ins) (H:Right ts L) (ho:ROk ts L) (n:Nat) (hn:n≤200) :
  Calls Tryz.prog 24 #[.pointer (some ⟨q,0,none⟩),vX,.int .i64 (n:Int)] w fun e w'=>∃ v,e = .returned v∧Outs w.heap.size w' v (eqL L).length n (sol ts L ins)∧Below w.heap.size w w':=by
 obtain ⟨i0,hi0,hz0,hz1,hz2⟩:=info_parts Tryz.infoInts
 obtain ⟨hf1,hf2⟩:=H.few
 obtain ⟨aq,cq,rfl,hshq⟩:=own_shape h.eqs
 have hX':=hX
 obtain ⟨aX,cX,rfl,_,_⟩:=hX'
 have hm2:=run_make_row' (P:=Tryz.prog) 34 3 (.int .i64 0) 8 Tryz.underlying34 Tryz.infoInt rfl .i64 .i64 n (by omega) (by omega)
 have HR:=hide h
 have HX:=hide hX
 have HH:=hide H
 have HO:=hide ho
 have hqlt:=h.lt
 clear h hX H ho hshq
 go_enter Tryz.func24,Tryz.ntmps24
 go_wp2
 go_loopw [8] (fun vi wr=>∃ (k:Nat) (v:Value) (rs:List Nat),k≤(eqL L).length∧vi = .int .i64 k∧Made w wr q n k (.slice aX ins.length cX) v rs) (fun vi _=>(eqL L).length - (intOf vi).toNat)
 case atStart=>
  exact ⟨0,.slice none 0 0,[],Nat.zero_le _,rfl,⟨(Below.refl _ _).alloc (Nat.le_refl _) _,by simp,heap_alloc_new w _,rfl,World.ownsRow_nil _ _ _ _,fun r hr=>by simp at hr,List.nodup_nil⟩⟩
 case round=>
  obtain ⟨k,v,rs,hk,rfl,hM⟩:=hrel
  have p4:=(HR.out.below hM.bel).c4
  have hbs:=hM.lt
  have HM:=hide hM
  by_cases hkl:k<(eqL L).length
  ·have hq:=hM.lt
   have c2:wr.cell? ⟨w.heap.size,2,none⟩=some v:=cell_of_row wr w.heap.size 2 _ _ _ hM.blk
   have f2:wr.frozen? ⟨w.heap.size,2,none⟩=false:=frozen_of_row wr w.heap.size 2 _ _ hM.blk
   have c2a:∀ o,(wr.alloc o).cell? ⟨w.heap.size,2,none⟩=some v:=fun o=>by rw [World.cell?_alloc_past _ _ _ hq];exact c2
   have ca:∀ o o',((wr.alloc o).alloc o').cell? ⟨w.heap.size,2,none⟩=some v:=fun o o'=>by rw [World.cell?_alloc_past _ _ _ (by simp;omega)];exact c2a o
   have fa:∀ o o',((wr.alloc o).alloc o').frozen? ⟨w.heap.size,2,none⟩=false:=fun o o'=>by rw [World.frozen?_alloc_past _ _ _ (by simp;omega),World.frozen?_alloc_past _ _ _ hq];exact f2
   have hown:=hM.own
   have nbv:v.ownBlock≠some w.heap.size:=fun e=>by have:=(hM.own.lt _ e).1;omega
   have j4:(k:Int)<((eqL L).length:Int):=by omega
   clear hM
   go_wp2_with (at_builtin;refine wpList_append_lies _ rfl _ _ _ rfl (w.heap.size+1) 34 i0 _ 1 24 Tryz.underlying22 hi0 hz0 hz1 hz2 rfl (by omega) v k (rowSl n rs) rfl ((hown.alloc _).alloc _) ⟨wr.heap.size+1,0,none⟩ 1 1 [.slice (some ⟨wr.heap.size,0,none⟩) n n] rfl rfl (World.news_of_block (cs:=#[.slice (some ⟨wr.heap.size,0,none⟩) n n]) (t:=34) (fr:=(0,0)) (by have:=heap_alloc_new (wr.alloc (.cells (madeCells #[.int .i64 0] n) 3)) (.cells #[.slice (some ⟨wr.heap.size,0,none⟩) n n] 34);simpa using this)) (by simp [Value.oneCell']) (by omega) (by unfold maxLen;omega) (by omega) (by simp;omega) (wr.heap.size+2) (by simp) ?_;intro gg cap2 w3 hown3 hgrow hat hlt3;have k4:=(hgrow.cell_far ⟨w.heap.size,2,none⟩ (by simp;omega) (Ne.symm nbv)).trans (ca _ _);have g4:=(hgrow.frozen_far ⟨w.heap.size,2,none⟩ (by simp;omega) (Ne.symm nbv)).trans (fa _ _))
   go_roundw
   case rel=>
    have hM:=HM.out
    have hsz3:=hgrow.size
    simp at hsz3
    have hnr:∀ r∈rs,r<wr.heap.size:=fun r hr=>World.rowIs.lt (hM.rows r hr).2.2
    have ggB:w.heap.size+1≤gg:=by
     rcases hat with hat | hat
     ·exact (hown.lt _ hat).1
     ·omega
    have oth:∀ b,b≠w.heap.size→(w3.setCell ⟨w.heap.size,2,none⟩ (.slice (some ⟨gg,0,none⟩) (k+1) cap2)).heap[b]? = w3.heap[b]?:=fun b hb=>heap_setCell_other _ ⟨w.heap.size,2,none⟩ b _ hb
    have hg2:w3.grownBy (w3.setCell ⟨w.heap.size,2,none⟩ (.slice (some ⟨gg,0,none⟩) (k+1) cap2)) (some w.heap.size):=⟨rfl,rfl,rfl,by simp,fun b _ hb=>oth b (fun e=>hb (by simp [e]))⟩
    refine ⟨k+1,.slice (some ⟨gg,0,none⟩) (k+1) cap2,rs ++ [wr.heap.size],by omega,by go_num,⟨?_,?_,?_,?_,?_,?_,?_⟩⟩
    ·exact (((hM.bel.alloc hM.bel.size _).alloc (by simp;omega) _).grown hgrow (by simp;omega) (fun j hj=>by have:=ownBlock_ge hown j hj;omega)).setCell (Nat.le_refl _) _
    ·simp;omega
    ·rw [heap_setCell_same w3 w.heap.size 2 _ _ _ (((hgrow.block w.heap.size (by simp;omega) (Ne.symm nbv)).trans (by rw [Below.heap_alloc _ _ _ (by simp;omega),Below.heap_alloc _ _ _ hq])).trans hM.blk)];rfl
    ·rw [List.length_append,hM.len];rfl
    ·rw [rowSl_snoc]
     exact hown3.kept hg2 (.inr (by simp [Value.ownBlock];omega))
    ·intro r hr
     rcases List.mem_append.1 hr with hr | hr
     ·obtain ⟨h1,h2,h3⟩:=hM.rows r hr
      have hrl:=hnr r hr
      refine ⟨h1,?_,?_⟩
      ·intro e
       have e':gg=r:=by simpa [Value.ownBlock] using e
       rcases hat with hat | hat
       ·rw [e'] at hat;exact h2 hat
       ·omega
      ·refine World.rowIs.of_block ((h3.alloc _).alloc _) ((oth r (by omega)).trans (hgrow.block r (by simp;omega) (fun e=>h2 e.symm)))
     ·rw [List.mem_singleton] at hr
      subst hr
      refine ⟨by omega,?_,?_⟩
      ·intro e
       have e':gg=wr.heap.size:=by simpa [Value.ownBlock] using e
       rcases hat with hat | hat
       ·rw [e'] at hat;have:=(hown.lt _ hat).2;omega
       ·omega
      ·refine World.rowIs.of_block ((World.rowIs_made wr (.int .i64 0) n 3).alloc _) ((oth wr.heap.size (by omega)).trans (hgrow.block wr.heap.size (by simp;omega) (fun e=>by have:=(hown.lt _ e.symm).2;omega)))
    ·rw [List.nodup_append]
     refine ⟨hM.nd,by simp,fun a ha b hb=>?_⟩
     rw [List.mem_singleton] at hb
     have:=hnr a ha
     omega
   case measure=>simp [intOf];omega
  ·have ek:k=(eqL L).length:=by omega
   subst ek
   have z1:¬ ((eqL L).length:Int)<((eqL L).length:Int):=by omega
   obtain ⟨a,gr,rc,R,rfl,ha,hmat,hRB,hgB⟩:=rows_mat hM.len hM.own hM.rows hM.nd
   have hT:RTabB w wr w.heap.size q g cap ts L vE vA vI (.slice aq (eqL L).length cq) (.slice aX ins.length cX) ins a gr rc n R (fun _ _=>0) 0 (.slice none 0 0):=
    ⟨hM.bel,HR.out,HX.out,Nat.le_refl _,hM.lt,hM.blk,fun hp=>(ha hp).1,hmat,fun _=>by omega,fun i hi=>by have:=(hRB i hi).1;omega,fun _=>by omega,fun i hi=>by have:=(hRB i hi).1;omega⟩
   have HT:=hide hT
   have HAA:=hide ha
   have HRB:=hide hRB
   clear hT hM HM ha hmat hRB hm2
   go_wp2
   go_loopw [10] (fun vk wx=>∃ (j:Nat) (F:Nat→Nat→Int) (vD:Value),j≤n∧vk = .int .i64 j∧RTabB w wx w.heap.size q g cap ts L vE vA vI (.slice aq (eqL L).length cq) (.slice aX ins.length cX) ins a gr rc n R F j vD∧∀ i k,i<(eqL L).length→k<j→F i k=sol ts L ins i k) (fun vk _=>n - (intOf vk).toNat)
   case atStart=>exact ⟨0,fun _ _=>0,.slice none 0 0,Nat.zero_le _,rfl,by first | exact HT.out | exact HT.out.below (below_drewN (Below.refl _ _) _),fun i k _ hk=>by omega⟩
   case round=>
    clear HT
    obtain ⟨j,F,vD,hj,rfl,hT,hF⟩:=hrel
    by_cases hjn:j<n
    ·have z2:(j:Int)<(n:Int):=by omega
     have HCALL:=hide (fun W hW=>rinstant_any w W w.heap.size q g cap ts L vE vA vI (.slice aq (eqL L).length cq) (.slice aX ins.length cX) ins a gr rc n R F j vD hW HH.out HO.out hjn (by omega) hF)
     have HT:=hide hT
     clear hT hF
     go_wp2_with fail
     refine (HCALL.out _ (by first | exact HT.out | exact HT.out.below (below_drewN (Below.refl _ _) _))).mono ?_
     rintro e w1 ⟨rfl,F',vD',hT',hF'⟩
     have HT':=hide hT'
     have HF':=hide hF'
     clear hT' hF' HCALL HT
     go_wp2
     go_roundw
     case rel=>exact ⟨j+1,F',vD',by omega,by go_num,by first | exact HT'.out | exact HT'.out.below (below_drewN (Below.refl _ _) _),HF'.out⟩
     case measure=>simp [intOf];omega
    ·have ej:j=n:=by omega
     subst ej
     have z2:¬ (j:Int)<(j:Int):=by omega
     have c2:=hT.c2
     have HT:=hide hT
     have HF:=hide hF
     clear hT hF
     go_wp2
     go_ret
     exact ⟨_,rfl,⟨⟨a,gr,rc,R,rfl,fun hp=>(HAA.out hp).1,HT.out.mat.congr (fun i k hi hk=>HF.out i k hi hk),fun i hi=>by have:=(HRB.out i hi).1;omega,by omega⟩⟩,HT.out.bel⟩
set_option maxHeartbeats 2000000 in
set_option maxRecDepth 100000 in
theorem rpat_any (w:World) (q g cap:Nat) (ts:List Tk) (L:List Dl) (vE vA vI vQ:Value) (h:RProg w q g cap ts L vE vA vI vQ) (ho:ROk ts L) (pl:Int) :
  Calls Tryz.prog 28 #[.pointer (some ⟨q,0,none⟩),.int .i64 pl] w fun e w'=>∃ v,e = .returned v∧w'.ownsRow w.heap.size 3 1 v (atR ts L pl).length (pCells (atR ts L pl))∧Below w.heap.size w w':=by
 obtain ⟨i0,hi0,hz0,hz1,hz2⟩:=info_parts Tryz.infoInt
 obtain ⟨hm1,hm2,hm3⟩:=ho.many
 obtain ⟨av,cv,rfl,hsh⟩:=own_shape h.eqs
 have HR:=hide h
 have HO:=hide ho
 have HSH:=hide hsh
 clear h ho hsh
 go_enter Tryz.func28,Tryz.ntmps28
 go_wp2
 go_loopw [5,6] (fun v vi wr=>∃ m:Nat,m≤(eqL L).length∧vi = .int .i64 m∧wr.ownsRow w.heap.size 3 1 v (atG ts L pl m).length (pCells (atG ts L pl m))∧Below w.heap.size w wr) (fun _ vi _=>(eqL L).length - (intOf vi).toNat)
 case atStart=>exact ⟨0,Nat.zero_le _,rfl,World.ownsRow_nil _ _ _ _,Below.refl _ _⟩
 case round=>
  obtain ⟨m,hm,rfl,hown,hbel⟩:=hrel
  have c4:=(HR.out.below hbel).c4
  have HOW:=hide hown
  have HBR:=hide hbel
  have hbs:=hbel.size
  have hal:=atG_len ts L pl m
  clear hown
  by_cases hml:m<(eqL L).length
  ·obtain ⟨gq,rfl,_,hgq2⟩:=HSH.out (by omega)
   obtain ⟨x,hx⟩:∃ x,x=(eqL L)[m]'hml:=⟨_,rfl⟩
   obtain ⟨hxm,hxk,hxs,hxl,_⟩:=HO.out.eq (x:=x) (by rw [hx];exact List.getElem_mem hml)
   obtain ⟨e1,e2,e3⟩:=rdc_truth ts hxk
   obtain ⟨d,hd⟩:∃ d,d=rdc ts x:=⟨_,rfl⟩
   rw [← hd] at e1 e2 e3
   obtain ⟨y0,y1,y2,y3,y4,y5⟩:=rd_later HR.out.eqs hbel hgq2 hml d (by rw [hd,hx])
   have j3:(0:Int)≤(m:Int):=by omega
   have j4:(m:Int)<((eqL L).length:Int):=by omega
   have HE:Hid (((placeD ts ((eqL L)[m]'hml):Nat):Int)=(d.place:Int)):=hide (by rw [e3,hx])
   clear hd hx e1 e2 e3 hxm hxk hxs hxl y0 y1 y2 y3 y5 hbel
   by_cases hp:(d.place:Int)=pl
   ·have q0:((d.place:Int) == pl)=true:=by rw [hp];simp
    have HN:=hide (atG_hit hml (HE.out.trans hp))
    generalize (d.place:Int)=dp at *
    generalize atG ts L pl m=F at *
    clear hp
    have hod:=HOW.out
    go_wp2_with (at_builtin;refine wpList_append_lies _ rfl _ _ _ rfl w.heap.size 3 i0 _ 1 8 Tryz.underlying34 hi0 hz0 hz1 hz2 rfl (by omega) _ F.length (pCells F) rfl (hod.alloc _) ⟨wr.heap.size,0,none⟩ 1 1 [.int .i64 (m:Int)] rfl rfl (World.news_of_block (cs:=#[.int .i64 (m:Int)]) (t:=3) (fr:=(0,0)) (heap_alloc_new wr _)) (by simp [Value.oneCell']) (by omega) (by unfold maxLen;omega) (by omega) (by simp;omega) (wr.heap.size+1) (by simp) ?_;intro g3 cap3 w3 hown3 hgrow hat hlt3)
    go_roundw
    case rel=>
     refine ⟨m+1,by omega,by go_num,?_,?_⟩
     ·rw [HN.out,List.length_append,pCells_snoc];exact hown3
     ·exact (HBR.out.alloc hbs _).grown hgrow (by simp;omega) (fun j hj=>ownBlock_ge hod j hj)
    case measure=>simp [intOf];omega
   ·have q0:((d.place:Int) == pl)=false:=by rw [beq_eq_false_iff_ne];exact hp
    have HN:=hide (atG_miss hml (by rw [HE.out];exact hp))
    generalize (d.place:Int)=dp at *
    clear hp
    go_wp2
    go_roundw
    case rel=>exact ⟨m+1,by omega,by go_num,by rw [HN.out];first | exact HOW.out | exact bel_own HOW.out (below_drewN (Below.refl _ _) _),by first | exact HBR.out | exact below_drewN HBR.out _⟩
    case measure=>simp [intOf];omega
  ·have em:m=(eqL L).length:=by omega
   subst em
   have z1:¬ ((eqL L).length:Int)<((eqL L).length:Int):=by omega
   clear hbel
   go_wp2
   go_ret
   exact ⟨_,rfl,by first | exact HOW.out | exact bel_own HOW.out (below_drewN (Below.refl _ _) _),by first | exact HBR.out | exact below_drewN HBR.out _⟩
def codeE (s:ByteArray) (L:List Dl) (pl:Int):Nat:=if (textF s).1≠0 then (textF s).1 else if (atR (toks s) L pl).length=0 then 8 else 0
set_option maxHeartbeats 1000000 in
theorem rcoded_any (s:ByteArray) (w:World) (pl:Int) :
  Calls Tryz.prog 14 #[.string s,.int .i64 pl] w fun e w'=>∃ L:List Dl,e = .returned (.int .i64 (codeE s L pl:Int))∧((textF s).1=0→RGood s L)∧Below w.heap.size w w':=by
 go_enter Tryz.func14,Tryz.ntmps14
 go_wp2_with fail
 refine (rread_any s w).mono ?_
 rintro e w1 ⟨p,rfl,hb1,hok⟩
 have HB1:=hide hb1
 have HOK:=hide hok
 clear hok
 by_cases h0:(textF s).1=0
 ·obtain ⟨q,g,cap,L,vE,vA,vI,vQ,rfl,hP,ho,hG⟩:=HOK.out h0
  have q1:(((textF s).1:Int) != 0)=false:=by rw [h0];rfl
  have HCALL:=hide (rpat_any w1 q g cap (toks s) L vE vA vI vQ hP ho pl)
  have HG:=hide hG
  have H0:=hide h0
  clear hP ho hG h0 HOK
  go_wp2_with fail
  refine HCALL.out.mono ?_
  rintro e w2 ⟨v,rfl,hown,hb2⟩
  obtain ⟨a,c,rfl,_⟩:=own_shape hown
  have HB2:=hide hb2
  clear hown hb2 HCALL
  by_cases hz:(atR (toks s) L pl).length=0
  ·have HE:Hid (codeE s L pl=8):=hide (by unfold codeE;rw [if_neg (fun h=>h H0.out),if_pos hz])
   rw [hz]
   clear hz
   go_wp2
   go_ret
   exact ⟨L,by rw [HE.out];rfl,fun _=>HG.out,HB1.out.trans (HB2.out.mono HB1.out.size)⟩
  ·have HE:Hid (codeE s L pl=0):=hide (by unfold codeE;rw [if_neg (fun h=>h H0.out),if_neg hz])
   have q2:(((atR (toks s) L pl).length:Int) == 0)=false:=by rw [beq_eq_false_iff_ne];omega
   clear hz
   go_wp2
   go_ret
   exact ⟨L,by rw [HE.out];rfl,fun _=>HG.out,HB1.out.trans (HB2.out.mono HB1.out.size)⟩
 ·have q1:(((textF s).1:Int) != 0)=true:=by rw [bne_iff_ne];omega
  have HE:Hid (codeE s [] pl=(textF s).1):=hide (by unfold codeE;rw [if_pos h0])
  have H0:=hide h0
  clear HOK h0
  go_wp2
  go_ret
  exact ⟨[],by rw [HE.out];rfl,fun h=>absurd h H0.out,HB1.out⟩
end Go.Proofs.YtmndgoapkmhglaaGreat
