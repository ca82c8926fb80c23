import Derived.Test.YtmndgoapkmhglabGreatM02BoxC
import Derived.Test.YtmndgoapkmhglabGreatM14JudJ
import Derived.Test.YtmndgoapkmhglabGreatM18RefF
import Derived.Test.YtmndgoapkmhglabGreatM20OpC
import Derived.Test.YtmndgoapkmhglabGreatM30RunX
namespace Go.Proofs.YtmndgoapkmhglabGreat
open Go.RowKit
attribute [local go_sem ↓] Go.wp_at_zero Go.wp_at_succ
theorem own_same {w w':World}{B e size n:Nat}{v:Value}{xs:List Value} (h:w.ownsRow B e size v n xs) (hb:∀ g,v.ownBlock=some g→w'.heap[g]? = w.heap[g]?):w'.ownsRow B e size v n xs:=by
 refine ⟨h.1,?_⟩
 rcases h.2 with h0 | ⟨g,cap,cur,hv,h1,h2,h3⟩
 ·exact .inl h0
 ·exact .inr ⟨g,cap,cur,hv,h1,(hb g (by rw [hv];rfl)).trans h2,h3⟩
theorem rtAt_cells {w:World}{B g cap:Nat}{l:List Rt} (h:w.ownsRow B 88 3 (.slice (some ⟨g,0,none⟩) l.length cap) l.length (rtCells l)) {i:Nat} (hi:i<l.length) (r:Rt) (hr:r=l[i]'hi) :
  w.cell? ⟨g,i * 3,none⟩=some (.int .i64 (r.src:Int))∧w.cell? ⟨g,i * 3+1,none⟩=some (.int .i64 (r.dst:Int))∧w.cell? ⟨g,i * 3+2,none⟩=some (.bool r.late):=by
 have hj:∀ j,j<3→w.cell? ⟨g,i * 3+j,none⟩=r.cells[j]?:=fun j hj=>by
  rw [h.cellAt (i * 3+j) (by omega),hr]
  exact flat_get Rt.cells 3 rt_len l i j hi hj
 exact ⟨hj 0 (by omega),hj 1 (by omega),hj 2 (by omega)⟩
set_option maxHeartbeats 2000000 in
set_option maxRecDepth 100000 in
theorem waits_any (w:World) (q:Nat) (ds:List Dc) (ns:List Nd) (vd vn:Value) (h:ProgAt w q ds ns vd vn) (hwf:ProgWf ds ns) (hL:∀ r∈linksF ds ns,r.src<(eqsF ds).length∧r.dst<4) (hll:(linksF ds ns).length≤6100) :
  Calls Tryz.prog 91 #[.pointer (some ⟨q,0,none⟩)] w fun e w'=>e = .returned (.slice (some ⟨w.heap.size,0,none⟩) 4 4)∧Mat w' w.heap.size 4 (fun i=>w.heap.size+1+i) (waitsM (eqsF ds) (linksF ds ns) noM)∧Below w.heap.size w w':=by
 have hm1:=run_make_row' (P:=Tryz.prog) 148 110 (.slice none 0 0) 24 Tryz.underlying148 Tryz.infoBools rfl .i64 .i64 4 (by omega) (by omega)
 have hm2:=run_make_row' (P:=Tryz.prog) 110 4 (.bool false) 1 Tryz.underlying110 Tryz.infoBool rfl .i64 .i64 4 (by omega) (by omega)
 simp only [show ((4:Nat):Int)=4 from rfl] at hm1 hm2
 have HR0:=hide (World.rowIs_made w (.slice none 0 0) 4 110)
 have hdl:=hwf.dl
 have HP:=hide h
 have HWF:=hide hwf
 have HL:=hide hL
 have hel:(eqsF ds).length≤1501:=Nat.le_trans (List.length_filter_le _ _) hdl
 have HEP:Hid (∀ d∈eqsF ds,d.place<4):=hide (fun d hd=>hwf.place d (List.mem_filter.1 hd).1)
 clear h hwf hL
 go_enter Tryz.func91,Tryz.ntmps91
 go_wp2
 go_loopw [12] (fun i wr=>∃ k:Nat,k≤4∧i = .int .i64 k∧wr.heap.size=w.heap.size+1+k∧Below w.heap.size w wr∧
   wr.rowIs w.heap.size 110 4 (fun i=>if i<k then .slice (some ⟨w.heap.size+1+i,0,none⟩) 4 4 else .slice none 0 0)∧(∀ i,i<k→wr.rowIs (w.heap.size+1+i) 4 4 (fun _=>.bool false))) (fun i _=>4 - (intOf i).toNat)
 case atStart=>exact ⟨0,Nat.zero_le _,rfl,by simp,(Below.refl _ _).alloc (Nat.le_refl _) _,HR0.out.congr (fun i _=>by simp),fun i hi=>by omega⟩
 case round=>
  obtain ⟨k,hk,rfl,hsz,hbel,hout,hrows⟩:=hrel
  by_cases hlt:k<4
  ·have j1:(0:Int)≤(k:Int):=by omega
   have j2:(k:Int)<4:=by omega
   have lg:w.heap.size<wr.heap.size:=by omega
   have x0:∀ o,(wr.alloc o).cell? ⟨w.heap.size,k,none⟩=some (.slice none 0 0):=fun o=>(World.cell?_alloc_past _ _ _ lg).trans ((hout.cell hlt).trans (by simp))
   have f0:∀ o,(wr.alloc o).frozen? ⟨w.heap.size,k,none⟩=false:=fun o=>(World.frozen?_alloc_past _ _ _ lg).trans (hout.frozen k)
   have HSZ:=hide hsz
   have HOUT:=hide hout
   have HROWS:=hide hrows
   clear hsz hout hrows
   go_wp2
   go_roundw
   case rel=>
    have e1:wr.heap.size=w.heap.size+1+k:=HSZ.out
    refine ⟨k+1,by omega,by go_num,by simp;omega,?_,?_,?_⟩
    ·first | exact (hbel.alloc (by omega) _).setCell (Nat.le_refl _) _ | exact (hbel.setCell (Nat.le_refl _) _).alloc (by simp;omega) _
    ·have h1:=(HOUT.out.set k (.slice (some ⟨wr.heap.size,0,none⟩) 4 4)).alloc (.cells (madeCells #[.bool false] 4) 4)
     refine World.rowIs.congr ?_ (f:=(fun j=>if j=k then .slice (some ⟨wr.heap.size,0,none⟩) 4 4 else if j<k then .slice (some ⟨w.heap.size+1+j,0,none⟩) 4 4 else .slice none 0 0)) (fun i hi=>?_)
     ·exact h1
     ·by_cases e:i=k
      ·subst e;rw [if_pos rfl,if_pos (by omega),e1]
      ·rw [if_neg e]
       by_cases h2:i<k
       ·rw [if_pos h2,if_pos (by omega)]
       ·rw [if_neg h2,if_neg (by omega)]
    ·intro i hi
     by_cases e:i=k
     ·subst e
      have h2:=World.rowIs_made (wr.setCell ⟨w.heap.size,i,none⟩ (.slice (some ⟨wr.heap.size,0,none⟩) 4 4)) (.bool false) 4 4
      simp only [World.size_setCell] at h2
      rw [← e1]
      exact h2
     ·exact ((HROWS.out i (by omega)).setOther (a:=⟨w.heap.size,k,none⟩) (by show w.heap.size+1+i≠w.heap.size;omega) _).alloc _
   case measure=>simp [intOf];omega
  ·have ek:k=4:=by omega
   subst ek
   have hm2':Mat wr w.heap.size 4 (fun i=>w.heap.size+1+i) noM:=⟨fun i hi=>(hout.cell hi).trans (by simp [hi]),fun i hi=>hrows i hi,fun i j _ _ e=>by omega,fun i _=>by omega⟩
   have hs2:=hsz
   clear hsz hout hrows HR0 hm1 hm2
   go_wp2_with fail
   refine (equations_any wr q ds ns vd vn (HP.out.below hbel) hdl).mono ?_
   rintro e w1 ⟨ve,rfl,he1,hb1⟩
   have hb01:Below w.heap.size w w1:=hbel.trans (hb1.mono hbel.size)
   go_wp2_with fail
   refine (linksOf_any w1 q ds ns vd vn (HP.out.below hb01) HWF.out).mono ?_
   rintro e w3 ⟨vl,rfl,hl3,hb3⟩
   have hb03:Below w.heap.size w w3:=hb01.trans (hb3.mono hb01.size)
   have hw1:=hb1.size
   have hs3:=hb3.size
   have hm3:Mat w3 w.heap.size 4 (fun i=>w.heap.size+1+i) noM:=hm2'.keep ((hb3.block _ (by omega)).trans (hb1.block _ (by omega))) (fun i hi=>(hb3.block _ (by omega)).trans (hb1.block _ (by omega)))
   have he3:w3.ownsRow wr.heap.size 90 7 ve (eqsF ds).length (dcCells (eqsF ds)):=own_same he1 (fun g hg=>hb3.block g (he1.lt g hg).2)
   have hbe:∀ g,ve.ownBlock=some g→wr.heap.size≤g∧g<w1.heap.size:=fun g hg=>he1.lt g hg
   have hbl:∀ g,vl.ownBlock=some g→w1.heap.size≤g∧g<w3.heap.size:=fun g hg=>hl3.lt g hg
   obtain ⟨ae,ce,rfl,hshe⟩:=own_shape he3
   obtain ⟨al,cl,rfl,hshl⟩:=own_shape hl3
   generalize w1.heap.size=G2 at *
   have HM3:=hide hm3
   have HE3:=hide he3
   have HL3:=hide hl3
   have HSE:=hide hshe
   have HSL:=hide hshl
   have HBE:=hide hbe
   have HBL:=hide hbl
   clear he1 hb1 hm2' hb01 hl3 hb3 hm3 he3 hshe hshl hbe hbl hbel
   generalize wr.heap.size=G1 at *
   obtain ⟨es,hes⟩:∃ es,es=eqsF ds:=⟨_,rfl⟩
   obtain ⟨ls,hls⟩:∃ ls,ls=linksF ds ns:=⟨_,rfl⟩
   rw [← hes] at HE3 HSE HEP hel HL
   rw [← hls] at HL3 HSL HL hll
   have HES:=hide hes
   have HLS:=hide hls
   rw [← hes,← hls]
   clear hes hls
   go_wp2
   go_loopw [25] (fun i wr=>∃ (k:Nat) (M:Mx),k≤ls.length∧i = .int .i64 k∧Below w.heap.size w wr∧Fr (fun j=>G1≤j∧j<w3.heap.size) w3 wr∧Mat wr w.heap.size 4 (fun i=>w.heap.size+1+i) M∧waitsM es (ls.drop k) M=waitsM es ls noM) (fun i _=>ls.length - (intOf i).toNat)
   case atStart=>exact ⟨0,noM,Nat.zero_le _,rfl,hb03,Fr.refl _ _,HM3.out,rfl⟩
   case round=>
    clear hb03 HM3
    obtain ⟨k,M,hk,rfl,hbel,hfr,hmat,hrec⟩:=hrel
    by_cases hlt:k<ls.length
    ·obtain ⟨gl,rfl,_,hgl⟩:=HSL.out (by omega)
     have hol:=own_same HL3.out (fun g hg=>hfr.block g (by have:=HBL.out g hg;omega))
     obtain ⟨r,hr⟩:∃ r,r=ls[k]'hlt:=⟨_,rfl⟩
     obtain ⟨x0,x1,x2⟩:=rtAt_cells hol hlt r hr
     rw [drop_at ls k hlt,← hr] at hrec
     obtain ⟨hr1,hr2⟩:=HL.out r (by rw [hr];exact List.getElem_mem hlt)
     have j1:(0:Int)≤(k:Int):=by omega
     have j2:(k:Int)<(ls.length:Int):=by omega
     simp only [waitsM] at hrec
     have HREC:=hide hrec
     have HMAT:=hide hmat
     have HFR:=hide hfr
     have hsw:=hfr.size
     clear hr hrec hmat hol hfr
     by_cases hlate:r.late=true
     ·have HF:Hid (waitsM es (ls.drop (k+1)) M=waitsM es ls noM):=hide (by rw [← HREC.out,if_pos hlate])
      go_wp2
      go_roundw
      case rel=>exact ⟨k+1,M,by omega,by go_num,hbel.alloc hbel.size _,HFR.out.trans (Fr.of_below ((Below.refl _ _).alloc (Nat.le_refl _) _) (fun j hj=>by omega)),HMAT.out.alloc _,HF.out⟩
      case measure=>simp [intOf];omega
     ·have hlate':r.late=false:=by simpa using hlate
      obtain ⟨ge,rfl,_,hge⟩:=HSE.out (by omega)
      obtain ⟨d,hd⟩:∃ d,d=es[r.src]'hr1:=⟨_,rfl⟩
      have hoe:=own_zero (own_same HE3.out (fun g hg=>HFR.out.block g (by have:=HBE.out g hg;omega)))
      have y4:=dcAt_cells hoe hr1 4 (by omega)
      rw [← hd] at y4
      simp [Dc.cells] at y4
      have hdp:d.place<4:=HEP.out d (by rw [hd];exact List.getElem_mem hr1)
      have HF:Hid (waitsM es (ls.drop (k+1)) (upd M r.dst d.place true)=waitsM es ls noM):=hide (by rw [← HREC.out,if_neg hlate];simp [hr1,hd])
      have lge:ge<wr.heap.size:=by omega
      have y4':∀ o,(wr.alloc o).cell? ⟨ge,r.src * 7+4,none⟩=some (.int .i64 (d.place:Int)):=fun o=>(World.cell?_alloc_past _ _ _ lge).trans y4
      have o1:∀ o,(wr.alloc o).cell? ⟨w.heap.size,r.dst,none⟩=some (.slice (some ⟨w.heap.size+1+r.dst,0,none⟩) 4 4):=fun o=>(HMAT.out.alloc o).outer _ hr2
      have o2:∀ o,(wr.alloc o).cell? ⟨w.heap.size+1+r.dst,d.place,none⟩=some (.bool (M r.dst d.place)):=fun o=>(HMAT.out.alloc o).cell hr2 hdp
      have o3:∀ o,(wr.alloc o).frozen? ⟨w.heap.size+1+r.dst,d.place,none⟩=false:=fun o=>(HMAT.out.alloc o).froz hr2 _
      have i1:(0:Int)≤(r.src:Int):=by omega
      have i2:(r.src:Int)<(es.length:Int):=by omega
      have i3:(0:Int)≤(r.dst:Int):=by omega
      have i4:(r.dst:Int)<4:=by omega
      have i5:(0:Int)≤(d.place:Int):=by omega
      have i6:(d.place:Int)<4:=by omega
      clear hlate hoe y4 hd
      go_wp2
      go_roundw
      case rel=>
       refine ⟨k+1,upd M r.dst d.place true,by omega,by go_num,?_,?_,?_,HF.out⟩
       ·first | exact (hbel.alloc hbel.size _).setCell (by show w.heap.size≤w.heap.size+1+r.dst;omega) _ | exact (hbel.setCell (by show w.heap.size≤w.heap.size+1+r.dst;omega) _).alloc (by simp;exact hbel.size) _
       ·have hf1:=HFR.out.trans (Fr.of_below (X:=fun j=>G1≤j∧j<w3.heap.size) ((Below.refl _ wr).alloc (Nat.le_refl _) (.cells #[.int .i64 (r.src:Int),.int .i64 (r.dst:Int),.bool false] 88)) (fun j hj=>by omega))
        have hf2:=HFR.out.setCell (n:=w.heap.size+1+r.dst) (i:=d.place) (by omega) (.bool true)
        first | exact hf1.setCell (by omega) _ | exact hf2.trans (Fr.of_below ((Below.refl _ _).alloc (Nat.le_refl _) _) (fun j hj=>by simp;omega))
       ·first | exact (HMAT.out.alloc _).set hr2 _ _ | exact (HMAT.out.set hr2 _ _).alloc _
      case measure=>simp [intOf];omega
    ·have HF:Hid (waitsM es ls noM=M):=hide (by rw [← hrec,List.drop_of_length_le (by omega)];rfl)
     have HMAT:=hide hmat
     clear hrec hmat hfr
     go_wp2
     go_ret
     exact ⟨rfl,by rw [← HES.out,← HLS.out,HF.out];exact HMAT.out,hbel⟩
set_option maxHeartbeats 2000000 in
set_option maxRecDepth 100000 in
theorem loop_any (w:World) (q:Nat) (ds:List Dc) (ns:List Nd) (vd vn:Value) (h:ProgAt w q ds ns vd vn) (hwf:ProgWf ds ns) (hL:∀ r∈linksF ds ns,r.src<(eqsF ds).length∧r.dst<4) (hll:(linksF ds ns).length≤6100) :
  Calls Tryz.prog 59 #[.pointer (some ⟨q,0,none⟩)] w fun e w'=>e = .returned (optVal (loopF ds ns))∧Below w.heap.size w w':=by
 have hdl:=hwf.dl
 have HP:=hide h
 have HWF:=hide hwf
 have HL:=hide hL
 have hel:(eqsF ds).length≤1501:=Nat.le_trans (List.length_filter_le _ _) hdl
 have HEP:Hid (∀ d∈eqsF ds,d.place<4):=hide (fun d hd=>hwf.place d (List.mem_filter.1 hd).1)
 have HLF:Hid (loopF ds ns=firstAt (warsh (waitsM (eqsF ds) (linksF ds ns) noM) 4) (eqsF ds)):=hide rfl
 clear h hwf hL
 go_enter Tryz.func59,Tryz.ntmps59
 go_wp2_with fail
 refine (waits_any w q ds ns vd vn HP.out HWF.out HL.out hll).mono ?_
 rintro e w2 ⟨rfl,hm2,hb2⟩
 have hw2:=hb2.size
 have hG2:w.heap.size<w2.heap.size:=hm2.lt (by omega)
 go_wp2_with fail
 refine (follow_any w2 w.heap.size 4 4 _ _ hm2 (by omega)).mono ?_
 rintro e w3 ⟨rfl,hm3,hro3⟩
 have hb3:Below w.heap.size w w3:=hb2.trans (hro3.below (fun i _=>by omega))
 go_wp2_with fail
 refine (equations_any w3 q ds ns vd vn (HP.out.below hb3) hdl).mono ?_
 rintro e w4 ⟨ve,rfl,he4,hb34⟩
 have hb4:Below w.heap.size w w4:=hb3.trans (hb34.mono hb3.size)
 have hl3:w.heap.size<w3.heap.size:=hm3.lt (by omega)
 have hm4:Mat w4 w.heap.size 4 (fun i=>w.heap.size+1+i) (warsh (waitsM (eqsF ds) (linksF ds ns) noM) 4):=hm3.keep (hb34.block _ hl3) (fun i hi=>hb34.block _ ((hm3.rows i hi).lt))
 obtain ⟨ae,ce,rfl,hshe⟩:=own_shape he4
 have hoe4:=own_zero he4
 have HLF2:=HLF
 have HSE:=hide hshe
 have HC:=HLF
 have HM4:=hide hm4
 have HO4:=hide hoe4
 have hlt4:w.heap.size<w4.heap.size:=hm4.lt (by omega)
 have hge4:∀ ge,ae=some ⟨ge,0,none⟩→ge<w4.heap.size:=fun ge h=>by
  have h1:(Value.slice ae (eqsF ds).length ce).ownBlock=some ge:=by rw [h];rfl
  have:=(hoe4.lt ge h1).2
  exact this
 have HGE:=hide hge4
 clear hm4 hm3 hm2 hro3 hb2 hb3 hb34 he4 hshe hoe4 hge4 HLF HLF2 hG2 hl3 hw2
 generalize warsh (waitsM (eqsF ds) (linksF ds ns) noM) 4=MW at *
 generalize eqsF ds=es at *
 go_wp2
 go_loopw [14] (fun i wx=>∃ j:Nat,j≤es.length∧i = .int .i64 j∧Below w.heap.size w wx∧Below w4.heap.size w4 wx∧firstAt MW (es.drop j)=firstAt MW es) (fun i _=>es.length - (intOf i).toNat)
 case atStart=>exact ⟨0,Nat.zero_le _,rfl,hb4,Below.refl _ _,rfl⟩
 case round=>
  clear hb4
  obtain ⟨k,hk,rfl,hbx,hbx4,hrb⟩:=hrel
  by_cases hlt:k<es.length
  ·obtain ⟨ge,rfl,_,_⟩:=HSE.out (by omega)
   rw [drop_at es k hlt] at hrb
   obtain ⟨a,ha⟩:∃ a,a=es[k]'hlt:=⟨_,rfl⟩
   rw [← ha] at hrb
   obtain ⟨x0,x1,x2,x3,x4,x5,x6⟩:=dc_later HO4.out hbx4 (HGE.out ge rfl) hlt a ha
   have hap:a.place<4:=HEP.out a (by rw [ha];exact List.getElem_mem hlt)
   have hmx:Mat wr w.heap.size 4 (fun i=>w.heap.size+1+i) MW:=HM4.out.keep (hbx4.block _ hlt4) (fun i hi=>hbx4.block _ ((HM4.out.rows i hi).lt))
   have j1:(0:Int)≤(k:Int):=by omega
   have j2:(k:Int)<(es.length:Int):=by omega
   have j3:(0:Int)≤(a.place:Int):=by omega
   have j4:(a.place:Int)<4:=by omega
   simp only [firstAt] at hrb
   have o1:∀ o,(wr.alloc o).cell? ⟨w.heap.size,a.place,none⟩=some (.slice (some ⟨w.heap.size+1+a.place,0,none⟩) 4 4):=fun o=>(hmx.alloc o).outer _ hap
   have o2:∀ o,(wr.alloc o).cell? ⟨w.heap.size+1+a.place,a.place,none⟩=some (.bool (MW a.place a.place)):=fun o=>(hmx.alloc o).cell hap hap
   have HRB:=hide hrb
   have hb4s:=hbx4.size
   clear ha hrb hmx
   by_cases hs:MW a.place a.place=true
   ·have HF2:Hid (loopF ds ns=some a.pos):=hide (by rw [HC.out,← HRB.out,if_pos hs])
    go_wp2_with fail
    go_quiet (fail)
    go_wp2
    go_ret2
    exact ⟨opt_some HF2.out,below_drewN (hbx.alloc hbx.size _) _⟩
   ·have hs':MW a.place a.place=false:=by simpa using hs
    have HF2:Hid (firstAt MW (es.drop (k+1))=firstAt MW es):=hide (by rw [← HRB.out,if_neg hs])
    clear hs
    go_wp2_with fail
    go_quiet (fail)
    go_wp2
    go_roundw
    case rel=>exact ⟨k+1,by omega,by go_num,below_drewN (hbx.alloc hbx.size _) _,below_drewN (hbx4.alloc hb4s _) _,HF2.out⟩
    case measure=>simp [intOf];omega
  ·have HF2:Hid (loopF ds ns=none):=hide (by rw [HC.out,← hrb,List.drop_of_length_le (by omega)];rfl)
   clear hrb
   go_wp2
   go_ret2
   exact ⟨opt_none HF2.out,hbx⟩
set_option maxHeartbeats 1000000 in
set_option maxRecDepth 100000 in
theorem meaning_any (w:World) (q:Nat) (ds:List Dc) (ns:List Nd) (vd vn:Value) (h:ProgAt w q ds ns vd vn) (hg:Good ds ns) :
  Calls Tryz.prog 26 #[.pointer (some ⟨q,0,none⟩)] w fun e w'=>e = .returned (.tuple #[.int .i64 ((meaningF ds ns).1:Int),.int .i64 ((meaningF ds ns).2:Int)])∧Below w.heap.size w w':=by
 have HP:=hide h
 have HG:=hide hg
 clear h hg
 go_enter Tryz.func26,Tryz.ntmps26
 go_wp2_with fail
 refine (tooMany_any w q ds ns vd vn HP.out HG.out.wf.dl).mono ?_
 rintro e w1 ⟨rfl,hb1⟩
 cases h1:tooManyF ds with
 | some a=>
  have HF:Hid (meaningF ds ns=(3,a)):=hide (by unfold meaningF;rw [h1])
  simp only [optVal,Option.getD_some,Option.isSome_some]
  clear h1
  go_wp2_with fail
  go_ret2
  exact ⟨by rw [HF.out];rfl,hb1⟩
 | none=>
  simp only [optVal,Option.getD_none,Option.isSome_none]
  have H1:=hide h1
  clear h1
  go_wp2_with fail
  refine (badName_any w1 q ds ns vd vn (HP.out.below hb1) HG.out.wf).mono ?_
  rintro e w2 ⟨rfl,hb2⟩
  have hb02:Below w.heap.size w w2:=hb1.trans (hb2.mono hb1.size)
  clear hb1 hb2
  cases h2:badNameF ds ns 0 ds with
  | some a=>
   have HF:Hid (meaningF ds ns=(4,a)):=hide (by unfold meaningF;rw [H1.out];simp only;rw [h2])
   simp only [optVal,Option.getD_some,Option.isSome_some]
   clear h2
   go_wp2_with fail
   go_ret2
   exact ⟨by rw [HF.out];rfl,hb02⟩
  | none=>
   simp only [optVal,Option.getD_none,Option.isSome_none]
   have H2:=hide h2
   have HB:=hide (HG.out.names h2)
   clear h2
   go_wp2_with fail
   refine (badType_any w2 q ds ns vd vn (HP.out.below hb02) HG.out.wf HB.out).mono ?_
   rintro e w3 ⟨rfl,hb3⟩
   have hb03:Below w.heap.size w w3:=hb02.trans (hb3.mono hb02.size)
   clear hb02 hb3
   cases h3:badTypeF ds 0 ns (roots ds (List.replicate ns.length false)) with
   | some a=>
    have HF:Hid (meaningF ds ns=(5,a)):=hide (by unfold meaningF;rw [H1.out];simp only;rw [H2.out];simp only;rw [h3])
    simp only [optVal,Option.getD_some,Option.isSome_some]
    clear h3
    go_wp2_with fail
    go_ret2
    exact ⟨by rw [HF.out];rfl,hb03⟩
   | none=>
    simp only [optVal,Option.getD_none,Option.isSome_none]
    have H3:=hide h3
    clear h3
    go_wp2_with fail
    refine (cycle_any w3 q ds ns vd vn (HP.out.below hb03) HG.out.wf HB.out).mono ?_
    rintro e w4 ⟨rfl,hb4⟩
    have hb04:Below w.heap.size w w4:=hb03.trans (hb4.mono hb03.size)
    clear hb03 hb4
    cases h4:cycleF ds ns with
    | some a=>
     have HF:Hid (meaningF ds ns=(6,a)):=hide (by unfold meaningF;rw [H1.out];simp only;rw [H2.out];simp only;rw [H3.out];simp only;rw [h4])
     simp only [optVal,Option.getD_some,Option.isSome_some]
     clear h4
     go_wp2_with fail
     go_ret2
     exact ⟨by rw [HF.out];rfl,hb04⟩
    | none=>
     simp only [optVal,Option.getD_none,Option.isSome_none]
     have H4:=hide h4
     clear h4
     go_wp2_with fail
     refine (loop_any w4 q ds ns vd vn (HP.out.below hb04) HG.out.wf HG.out.links HG.out.many).mono ?_
     rintro e w5 ⟨rfl,hb5⟩
     have hb05:Below w.heap.size w w5:=hb04.trans (hb5.mono hb04.size)
     clear hb04 hb5
     cases h5:loopF ds ns with
     | some a=>
      have HF:Hid (meaningF ds ns=(7,a)):=hide (by unfold meaningF;rw [H1.out];simp only;rw [H2.out];simp only;rw [H3.out];simp only;rw [H4.out];simp only;rw [h5])
      simp only [optVal,Option.getD_some,Option.isSome_some]
      clear h5
      go_wp2_with fail
      go_ret2
      exact ⟨by rw [HF.out];rfl,hb05⟩
     | none=>
      have HF:Hid (meaningF ds ns=(0,0)):=hide (by unfold meaningF;rw [H1.out];simp only;rw [H2.out];simp only;rw [H3.out];simp only;rw [H4.out];simp only;rw [h5])
      simp only [optVal,Option.getD_none,Option.isSome_none]
      clear h5
      go_wp2_with fail
      go_ret2
      exact ⟨by rw [HF.out];rfl,hb05⟩
def TextRes (w w':World) (e:Ending) (s:ByteArray):Prop:=
 ∃ vd vn,e = .returned (.tuple #[.agg #[vd,vn],.int .i64 ((textF s).1:Int),.int .i64 ((textF s).2:Int)])∧
  (((textF s).1≠0∧vd = .slice none 0 0∧vn = .slice none 0 0)∨
   ((textF s).1=0∧∃ p,parseF s = .ok p∧(∃ a n c,vd = .slice a n c)∧(∃ a n c,vn = .slice a n c)∧
    w'.ownsRow w.heap.size 90 7 vd p.decls.length (dcCells p.decls)∧w'.ownsRow w.heap.size 161 11 vn p.nodes.length (ndCells (boundN p))∧(∀ g,vd.ownBlock=some g→vn.ownBlock≠some g)))
theorem row2 {w:World}{N:Nat}{a0 a1:Value}{t:TypeId} (h:w.heap[N]? = some (.cells #[a0,a1] t)) :
  w.cell? ⟨N,0,none⟩=some a0∧w.cell? ⟨N,1,none⟩=some a1∧∀ i,w.frozen? ⟨N,i,none⟩=false:=by
 refine ⟨?_,?_,fun i=>frozen_of_row w N i _ _ h⟩ <;> (rw [cell_of_row w N _ _ _ _ h];rfl)
theorem own_weak {w:World}{B B' e size n:Nat}{v:Value}{xs:List Value} (h:w.ownsRow B e size v n xs) (hb:B'≤B):w.ownsRow B' e size v n xs:=by
 refine ⟨h.1,?_⟩
 rcases h.2 with h0 | ⟨g,cap,cur,hv,h1,hr⟩
 ·exact .inl h0
 ·exact .inr ⟨g,cap,cur,hv,Nat.le_trans hb h1,hr⟩
theorem own_poke {w:World}{B e size n N i:Nat}{v u:Value}{xs:List Value} (h:w.ownsRow B e size v n xs) (hN:N<B):(w.setCell ⟨N,i,none⟩ u).ownsRow B e size v n xs:=
 own_same h (fun g hg=>heap_setCell_other w ⟨N,i,none⟩ g u (by have:=(h.lt g hg).1;show g≠N;omega))
set_option maxHeartbeats 1000000 in
set_option maxRecDepth 100000 in
theorem text_any (s:ByteArray) (w:World) (hs:s.size≤maxLen) (hg:s.size≤1500→∀ p,parseF s = .ok p→Good p.decls (boundN p)) :
  Calls Tryz.prog 15 #[.string s] w fun e w'=>TextRes w w' e s∧Below w.heap.size w w':=by
 unfold maxLen at hs
 by_cases hl:1500<s.size
 ·have HF:Hid (textF s=(1,0)):=hide (by unfold textF;rw [if_pos hl])
  clear hg
  go_enter Tryz.func15,Tryz.ntmps15
  go_wp2
  refine bodyPost_ret (v:=.tuple #[.agg #[.slice none 0 0,.slice none 0 0],.int .i64 1,.int .i64 0]) (by simp [results,Tryz.results15,go_sem]) rfl ?_
  exact ⟨⟨_,_,by rw [HF.out];rfl,.inl ⟨by rw [HF.out];simp,rfl,rfl⟩⟩,(Below.refl _ _).alloc (Nat.le_refl _) _⟩
 ·have hs':s.size≤1500:=by omega
  have HG:=hide (hg hs')
  clear hg
  go_enter Tryz.func15,Tryz.ntmps15
  go_wp2_with fail
  refine (parse_any s _ hs').mono ?_
  rintro e w1 ⟨hr,hb1⟩
  have hR1:=(hb1.block w.heap.size (by simp)).trans (heap_alloc_new w _)
  have hB1:Below w.heap.size w w1:=((Below.refl _ _).alloc (Nat.le_refl _) _).trans (hb1.mono (by simp))
  have hsz1:w.heap.size<w1.heap.size:=by have:=hb1.size;simp at this;omega
  clear hb1
  cases hy:parseF s with
  | error k=>
   rw [hy] at hr
   obtain rfl:=hr
   have HF:Hid (textF s=(2,(tkAt (toks s) k).pos)):=hide (by unfold textF;rw [if_neg hl,hy])
   obtain ⟨r0,r1,rF⟩:=row2 hR1
   have r0':∀ o,(w1.alloc o).cell? ⟨w.heap.size,0,none⟩=some (.slice none 0 0):=fun o=>(World.cell?_alloc_past _ _ _ hsz1).trans r0
   have r1':∀ o,(w1.alloc o).cell? ⟨w.heap.size,1,none⟩=some (.slice none 0 0):=fun o=>(World.cell?_alloc_past _ _ _ hsz1).trans r1
   have rF':∀ o i,(w1.alloc o).frozen? ⟨w.heap.size,i,none⟩=false:=fun o i=>(World.frozen?_alloc_past _ _ _ hsz1).trans (rF i)
   clear hy hR1
   go_wp2
   refine bodyPost_ret (v:=.tuple #[.agg #[.slice none 0 0,.slice none 0 0],.int .i64 2,.int .i64 ((tkAt (toks s) k).pos:Int)]) (by simp [results,Tryz.results15,go_sem, *]) rfl ?_
   refine ⟨⟨_,_,by rw [HF.out];rfl,.inl ⟨by rw [HF.out];simp,rfl,rfl⟩⟩,?_⟩
   exact ((hB1.setCell (Nat.le_refl _) _).setCell (Nat.le_refl _) _).alloc (by simp;omega) _
  | ok p=>
   rw [hy] at hr
   obtain ⟨vd,vn,rfl,hod,hon,hdn⟩:=hr
   have hgood:=HG.out p hy
   have HT:Hid (textF s=meaningF p.decls (boundN p)):=hide (by unfold textF;rw [if_neg hl,hy])
   have HY:=hide hy
   have hbl:(boundN p).length=p.nodes.length:=by simp [boundN]
   have hon':w1.ownsRow (w.heap.size+1) 161 11 vn (boundN p).length (ndCells (boundN p)):=by rw [hbl];simpa [boundN] using hon
   have hod':w1.ownsRow (w.heap.size+1) 90 7 vd p.decls.length (dcCells p.decls):=by simpa using hod
   obtain ⟨ad,cd,rfl,_⟩:=own_shape hod'
   obtain ⟨an,cn,rfl,_⟩:=own_shape hon'
   have hPA:ProgAt (w1.alloc (.cells #[.slice ad p.decls.length cd,.slice an (boundN p).length cn] 53)) w1.heap.size p.decls (boundN p) (.slice ad p.decls.length cd) (.slice an (boundN p).length cn):=
    ⟨by simp,(World.cell?_alloc_at _ _ _ _ rfl).trans rfl,(World.cell?_alloc_at _ _ _ _ rfl).trans rfl,(own_zero hod').alloc _,(own_zero hon').alloc _⟩
   have HPA:=hide hPA
   have HOD:=hide hod'
   have HON:=hide hon'
   have HDN:=hide hdn
   have HGOOD:=hide hgood
   have HBL:=hide hbl
   clear hPA hod hon hdn hgood hy hod' hon' hbl
   go_wp2_with fail
   refine (meaning_any _ _ _ _ _ _ HPA.out HGOOD.out).mono ?_
   rintro e w2 ⟨rfl,hb2⟩
   have hB2:Below w.heap.size w w2:=(hB1.alloc (by omega) _).trans (hb2.mono (by simp;omega))
   have hB12:Below w1.heap.size w1 w2:=((Below.refl _ _).alloc (Nat.le_refl _) _).trans (hb2.mono (by simp))
   have hR2:=(hB12.block _ hsz1).trans hR1
   have hq2:=HPA.out.below hb2
   obtain ⟨r0,r1,rF⟩:=row2 hR2
   have c0:=hq2.c0
   have c1:=hq2.c1
   have nq:w1.heap.size≠w.heap.size:=by omega
   have nq':w.heap.size≠w1.heap.size:=by omega
   have HB12:=hide hB12
   have HB2:=hide hB2
   clear hb2 hR2 hR1 hq2 hB2 hB12 hB1
   by_cases he:(meaningF p.decls (boundN p)).1=0
   ·have q1:(((meaningF p.decls (boundN p)).1:Int) != 0)=false:=by rw [he];rfl
    have HE:Hid ((textF s).1=0):=hide (by rw [HT.out];exact he)
    have HE2:Hid ((textF s).2=0):=hide (by
     rw [HT.out]
     revert he
     unfold meaningF
     split
     ·intro h;cases h
     split
     ·intro h;cases h
     split
     ·intro h;cases h
     split
     ·intro h;cases h
     split
     ·intro h;cases h
     ·intro _;rfl)
    clear he
    go_wp2
    refine bodyPost_ret (v:=.tuple #[.agg #[.slice ad p.decls.length cd,.slice an (boundN p).length cn],.int .i64 0,.int .i64 0]) (by simp [results,Tryz.results15,go_sem, *]) rfl ?_
    refine ⟨⟨_,_,by rw [HE.out,HE2.out];rfl,.inr ⟨HE.out,p,HY.out,⟨_,_,_,rfl⟩,⟨_,_,_,rfl⟩,?_,?_,?_⟩⟩,(HB2.out.setCell (Nat.le_refl _) _).setCell (Nat.le_refl _) _⟩
    ·exact own_weak (own_poke (own_poke (bel_own HOD.out HB12.out) (by omega)) (by omega)) (by omega)
    ·rw [← HBL.out]
     exact own_weak (own_poke (own_poke (bel_own HON.out HB12.out) (by omega)) (by omega)) (by omega)
    ·exact HDN.out
   ·have q1:(((meaningF p.decls (boundN p)).1:Int) != 0)=true:=by rw [bne_iff_ne];omega
    have HE:Hid ((textF s).1≠0):=hide (by rw [HT.out];exact he)
    have HTX:=HT
    clear he
    go_wp2
    refine bodyPost_ret (v:=.tuple #[.agg #[.slice none 0 0,.slice none 0 0],.int .i64 ((meaningF p.decls (boundN p)).1:Int),.int .i64 ((meaningF p.decls (boundN p)).2:Int)]) (by simp [results,Tryz.results15,go_sem, *]) rfl ?_
    exact ⟨⟨_,_,by rw [HTX.out],.inl ⟨HE.out,rfl,rfl⟩⟩,(HB2.out.setCell (Nat.le_refl _) _).setCell (Nat.le_refl _) _⟩
def RowAt (w:World) (v:Value) (zs:List Int):Prop:=
 ∃ (A:Option Addr) (C:Nat),v = .slice A zs.length C∧zs.length≤35184372088832∧(0<zs.length→∃ b o,A=some ⟨b,o,none⟩∧b<w.heap.size∧∀ c,(h:c<zs.length)→w.cell? ⟨b,o+c,none⟩=some (.int .i64 zs[c]))
def LsAt (w:World) (v:Value) (ins:List (List Int)):Prop:=
 ∃ (A:Option Addr) (C:Nat),v = .slice A ins.length C∧ins.length≤8796093022208∧(0<ins.length→∃ b o,A=some ⟨b,o,none⟩∧b<w.heap.size∧∀ r,(h:r<ins.length)→∃ x,w.cell? ⟨b,o+r,none⟩=some x∧RowAt w x ins[r])
theorem RowAt.below {w w':World}{v:Value}{zs:List Int} (h:RowAt w v zs) (hb:Below w.heap.size w w'):RowAt w' v zs:=by
 obtain ⟨A,C,hv,hm,hc⟩:=h
 refine ⟨A,C,hv,hm,fun hp=>?_⟩
 obtain ⟨b,o,h1,h2,h3⟩:=hc hp
 exact ⟨b,o,h1,Nat.lt_of_lt_of_le h2 hb.size,fun c hc=>(hb.cell (p:=⟨b,o+c,none⟩) h2).trans (h3 c hc)⟩
theorem LsAt.below {w w':World}{v:Value}{ins:List (List Int)} (h:LsAt w v ins) (hb:Below w.heap.size w w'):LsAt w' v ins:=by
 obtain ⟨A,C,hv,hm,hc⟩:=h
 refine ⟨A,C,hv,hm,fun hp=>?_⟩
 obtain ⟨b,o,h1,h2,h3⟩:=hc hp
 refine ⟨b,o,h1,Nat.lt_of_lt_of_le h2 hb.size,fun r hr=>?_⟩
 obtain ⟨x,hx,hr⟩:=h3 r hr
 exact ⟨x,(hb.cell (p:=⟨b,o+r,none⟩) h2).trans hx,hr.below hb⟩
structure MatI (w:World) (g m n:Nat) (R:Nat→Nat) (F:Nat→Nat→Int):Prop where
 outer:∀ i,i<m→w.cell? ⟨g,i,none⟩=some (.slice (some ⟨R i,0,none⟩) n n)
 rows:∀ i,i<m→w.rowIs (R i) 3 n (fun j=>.int .i64 (F i j))
 inj:∀ i j,i<m→j<m→R i=R j→i=j
 ne:∀ i,i<m→R i≠g
theorem MatI.congr {w:World}{g m n:Nat}{R:Nat→Nat}{F F':Nat→Nat→Int} (h:MatI w g m n R F) (e:∀ i j,i<m→j<n→F i j=F' i j):MatI w g m n R F':=
 ⟨h.outer,fun i hi=>(h.rows i hi).congr (fun j hj=>by rw [e i j hi hj]),h.inj,h.ne⟩
theorem MatI.cell {w:World}{g m n:Nat}{R:Nat→Nat}{F:Nat→Nat→Int} (h:MatI w g m n R F) {i j:Nat} (hi:i<m) (hj:j<n):w.cell? ⟨R i,j,none⟩=some (.int .i64 (F i j)):=(h.rows i hi).cell hj
theorem MatI.froz {w:World}{g m n:Nat}{R:Nat→Nat}{F:Nat→Nat→Int} (h:MatI w g m n R F) {i:Nat} (hi:i<m) (j:Nat):w.frozen? ⟨R i,j,none⟩=false:=(h.rows i hi).frozen j
theorem MatI.set {w:World}{g m n:Nat}{R:Nat→Nat}{F:Nat→Nat→Int} (h:MatI w g m n R F) {a:Nat} (ha:a<m) (b:Nat) (v:Int):MatI (w.setCell ⟨R a,b,none⟩ (.int .i64 v)) g m n R (fun i k=>if i=a∧k=b then v else F i k):=by
 refine ⟨fun i hi=>?_,fun i hi=>?_,h.inj,h.ne⟩
 ·rw [← h.outer i hi]
  exact World.cell?_setCell_other _ _ _ _ (by intro e;exact h.ne a ha (congrArg Addr.block e))
 ·by_cases e:i=a
  ·subst e
   refine ((h.rows i hi).set b (.int .i64 v)).congr (fun j _=>?_)
   by_cases ej:j=b
   ·subst ej;simp
   ·simp [ej]
  ·refine ((h.rows i hi).setOther (a:=⟨R a,b,none⟩) (fun e2=>e (h.inj i a hi ha e2)) (.int .i64 v)).congr (fun j _=>?_)
   simp [e]
theorem MatI.keep {w w':World}{g m n:Nat}{R:Nat→Nat}{F:Nat→Nat→Int} (h:MatI w g m n R F) (hg:w'.heap[g]? = w.heap[g]?) (hr:∀ i,i<m→w'.heap[R i]? = w.heap[R i]?):MatI w' g m n R F:=
 ⟨fun i hi=>(World.cell?_of_block (w:=w) (a:=⟨g,i,none⟩) hg).trans (h.outer i hi),fun i hi=>(h.rows i hi).of_block (hr i hi),h.inj,h.ne⟩
theorem MatI.lt {w:World}{g m n:Nat}{R:Nat→Nat}{F:Nat→Nat→Int} (h:MatI w g m n R F) (hm:0<m):g<w.heap.size:=World.block_lt_of_cell? _ _ (h.outer 0 hm)
theorem MatI.below {w w':World}{g m n:Nat}{R:Nat→Nat}{F:Nat→Nat→Int} (h:MatI w g m n R F) (hb:Below w.heap.size w w'):MatI w' g m n R F:=
 ⟨fun i hi=>(hb.cell (p:=⟨g,i,none⟩) (h.lt (by omega))).trans (h.outer i hi),fun i hi=>(h.rows i hi).of_block (hb.block _ (World.rowIs.lt (h.rows i hi))),h.inj,h.ne⟩
end Go.Proofs.YtmndgoapkmhglabGreat
namespace Go.Proofs.YtmndgoapkmhglabGreat
open Go.RowKit
theorem row_eq {xs ys:List Int} (hl:xs.length=ys.length) (h:∀ j,(hx:j<xs.length)→(hy:j<ys.length)→xs[j]=ys[j]):(xs == ys)=true:=by
 rw [beq_iff_eq]
 exact List.ext_getElem hl h
theorem row_ne {xs ys:List Int}{j:Nat} (hx:j<xs.length) (hy:j<ys.length) (h:xs[j]≠ys[j]):(xs == ys)=false:=by
 rw [beq_eq_false_iff_ne]
 rintro rfl
 exact h rfl
def iCells (l:List Int):List Value:=l.map fun x=>Value.int .i64 x
theorem iCells_len (l:List Int):(iCells l).length=l.length:=by simp [iCells]
theorem iCells_get (l:List Int) (j:Nat):(iCells l)[j]? = l[j]?.map fun x=>Value.int .i64 x:=by simp [iCells]
theorem Tryz.infoIntsE:(Tryz.prog.info? 36).map (fun i=>(i.zero,i.size,i.bytes))=some (some (.slice none 0 0),1,24):=by kernel_rfl
structure ArgL (w:World) (A:Option Addr) (C:Nat) (ins:List (List Int)) (AS:Nat→Option Addr) (CS:Nat→Nat):Prop where
 few:ins.length≤5864062014805
 nil:A=none→ins=[]
 out:0<ins.length→∃ b o,A=some ⟨b,o,none⟩∧b<w.heap.size∧∀ r,(h:r<ins.length)→w.cell? ⟨b,o+r,none⟩=some (.slice (AS r) ins[r].length (CS r))
 row:∀ r,(h:r<ins.length)→RowAt w (.slice (AS r) ins[r].length (CS r)) ins[r]∧(AS r=none→ins[r]=[])∧ins[r].length≤17592186044416
 cap:∀ r,(h:r<ins.length)→ins[r].length≤CS r
theorem ArgL.below {w w':World}{A:Option Addr}{C:Nat}{ins:List (List Int)}{AS:Nat→Option Addr}{CS:Nat→Nat} (h:ArgL w A C ins AS CS) (hb:Below w.heap.size w w'):ArgL w' A C ins AS CS:=by
 refine ⟨h.few,h.nil,fun hp=>?_,fun r hr=>⟨(h.row r hr).1.below hb,(h.row r hr).2⟩,h.cap⟩
 obtain ⟨b,o,h1,h2,h3⟩:=h.out hp
 exact ⟨b,o,h1,Nat.lt_of_lt_of_le h2 hb.size,fun r hr=>(hb.cell (p:=⟨b,o+r,none⟩) h2).trans (h3 r hr)⟩
theorem ArgL.ls {w:World}{A:Option Addr}{C:Nat}{ins:List (List Int)}{AS:Nat→Option Addr}{CS:Nat→Nat} (h:ArgL w A C ins AS CS):LsAt w (.slice A ins.length C) ins:=by
 refine ⟨A,C,rfl,by have:=h.few;omega,fun hp=>?_⟩
 obtain ⟨b,o,h1,h2,h3⟩:=h.out hp
 exact ⟨b,o,h1,h2,fun r hr=>⟨_,h3 r hr,(h.row r hr).1⟩⟩
structure Outs (B:Nat) (w:World) (v:Value) (m n:Nat) (F:Nat→Nat→Int):Prop where
 mat:∃ (a:Option Addr) (g cap:Nat) (R:Nat→Nat),v = .slice a m cap∧(0<m→a=some ⟨g,0,none⟩)∧MatI w g m n R F∧(∀ i,i<m→B≤R i)∧B≤g
theorem own_row {B:Nat}{w:World}{v:Value}{n:Nat}{xs:List Int} (h:w.ownsRow B 3 1 v n (iCells xs)) (hn:n≤1000) (hl:xs.length=n):RowAt w v xs:=by
 rcases h.2 with ⟨rfl,h0⟩ | ⟨g,cap,cur,rfl,hb,hg,h1,h2,h3,h4⟩
 ·exact ⟨none,0,by rw [hl,h0],by omega,fun hp=>by omega⟩
 ·refine ⟨_,_,by rw [hl],by omega,fun hp=>⟨g,0,rfl,(Array.getElem?_eq_some_iff.1 hg).1,fun c hc=>?_⟩⟩
  rw [Nat.zero_add,h.cellAt c (by omega),iCells_get,List.getElem?_eq_getElem hc];rfl
theorem own_of {B:Nat}{w w':World}{e:TypeId}{size n:Nat}{v:Value}{xs:List Value} (h:w.ownsRow B e size v n xs) (hk:∀ b,v.ownBlock=some b→w'.heap[b]? = w.heap[b]?):w'.ownsRow B e size v n xs:=by
 refine ⟨h.1,?_⟩
 rcases h.2 with h0 | ⟨g,cap,cur,rfl,hb,hg,h1⟩
 ·exact .inl h0
 ·exact .inr ⟨g,cap,cur,rfl,hb,(hk g rfl).trans hg,h1⟩
end Go.Proofs.YtmndgoapkmhglabGreat
