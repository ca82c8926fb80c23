import Derived.Deep.RegionHeld3
import Derived.Test.YtmndgoapkmhglabGreatM27RefV
import Derived.Test.YtmndgoapkmhglabGreatM38RuE
import Derived.Test.YtmndgoapkmhglabGreatM40TabG
import Derived.Test.YtmndgoapkmhglabGreatM41WkF
import Derived.Test.YtmndgoapkmhglabGreatM43RuP
namespace Go.Proofs.YtmndgoapkmhglabGreat
open Go.RowKit
attribute [local go_sem ↓] Go.wp_at_zero Go.wp_at_succ
theorem Tryz.infoEventR:(Tryz.prog.info? 38).map (fun i=>(i.zero,i.size,i.bytes))=some (some (.agg #[.int .i64 0,.int .i64 0,.int .i64 0,.int .i64 0,.slice none 0 0,.slice none 0 0]),6,80):=by kernel_rfl
def RunR (s:ByteArray) (ins:List (List Int)) (sc:List OpF) (B:Nat) (w':World) (v:Value):Prop:=
 if runE s sc=0 then ∃ L TV VV,RGood s L∧Right (toks s) L∧EvG B w' v (evsR (toks s) L ins sc) TV VV else v = .slice none 0 0
section
variable (N:List LnF) (V:Int→Nat→List Int) (sc:List OpF)
theorem past_fst {i:Nat} (hi:i≤sc.length):(pastI N V sc i).map Prod.fst=sc.take (pastI N V sc i).length:=by
 obtain ⟨S0,f1,f2,_⟩:=run_ext N V (sc.take i) []
 rw [past_len N V sc hi]
 unfold pastI
 rw [f1,List.nil_append,f2]
theorem past_in {i:Nat}:∀ x∈pastI N V sc i,x.1∈sc∧x.2.a=x.1.a:=by
 obtain ⟨S0,f1,f2,f3⟩:=run_ext N V (sc.take i) []
 unfold pastI
 rw [f1,List.nil_append]
 intro x hx
 exact ⟨List.mem_of_mem_take (by rw [← f2];exact List.mem_map.2 ⟨x,hx,rfl⟩),f3 x hx⟩
theorem past_tk:∀ i,i≤sc.length→∀ x∈pastI N V sc i,x.2.took.length≤N.length:=by
 intro i
 induction i with
 | zero=>intro _ x hx;simp [pastI,runG] at hx
 | succ i ih=>
  intro hi x hx
  rw [past_succ N V sc (by omega)] at hx
  rcases List.mem_append.1 hx with hx | hx
  ·exact ih (by omega) x hx
  ·rw [List.mem_singleton] at hx
   rw [hx]
   show (tookF N _ _).length≤N.length
   unfold tookF
   refine Nat.le_trans (List.length_filter_le _ _) ?_
   rw [List.length_range]
   exact Nat.le_refl _
theorem past_snd {i:Nat} (hi:i<sc.length):(pastI N V sc (i+1)).map Prod.snd=(pastI N V sc i).map Prod.snd ++ [wakeF N V (pastI N V sc i) sc[i]]:=by
 rw [past_succ N V sc hi,List.map_append]
 rfl
end
set_option maxHeartbeats 16000000 in
set_option maxRecDepth 100000 in
theorem rrun_any (s:ByteArray) (w:World) (vX:Value) (ins:List (List Int)) (hX:LsAt w vX ins) (vS:Value) (sc:List OpF) (hS:OpsAt w vS sc) :
  Calls Tryz.prog 7 #[.string s,vX,vS] w fun e w'=>∃ v,e = .returned (.tuple #[v,.int .i64 ((runE s sc:Nat):Int)])∧RunR s ins sc w.heap.size w' v∧Below w.heap.size w w':=by
 obtain ⟨i0,hi0,hz0,hz1,hz2⟩:=info_parts Tryz.infoEventR
 have HX:=hide hX
 have HS:=hide hS
 obtain ⟨aX,cX,rfl,_,_⟩:=hX
 obtain ⟨AS,CS,rfl,hmS,hcS⟩:=hS
 have HCS:=hide hcS
 clear hcS
 have HRE:Hid (runE s sc=if (textF s).1≠0 then (textF s).1 else if playK (seatsF s) sc then 0 else 11):=hide rfl
 have HRR:Hid (∀ B w' v,RunR s ins sc B w' v=if runE s sc=0 then ∃ L TV VV,RGood s L∧Right (toks s) L∧EvG B w' v (evsR (toks s) L ins sc) TV VV else v = .slice none 0 0):=hide (fun _ _ _=>rfl)
 generalize hQ1:RunR s ins sc=Q1 at *
 generalize hre:runE s sc=er at *
 clear hQ1 hre
 go_enter Tryz.func7,Tryz.ntmps7
 go_wp2_with fail
 refine (rread_any s w).mono ?_
 rintro e w1 ⟨p,rfl,hb1,hok⟩
 have HB1:=hide hb1
 have HOK:=hide hok
 clear hok hb1
 by_cases h0:(textF s).1=0
 ·have q1:(((textF s).1:Int) != 0)=false:=by rw [h0];rfl
  obtain ⟨q,g,cap,L,vE',vA,vI,vQ,rfl,hP,ho,hG⟩:=HOK.out h0
  have hR:Right (toks s) L:=right_of (toks_F s) hG.sp hG.many hG.names hG.cyc
  have hst:seatsF s=plR (toks s) L:=seats_text hG.sp
  have HPL:=hide (rplayable_any w1 q g cap (toks s) L vE' vA vI vQ hP ho _ sc (HS.out.below HB1.out))
  rw [if_neg (by simpa using h0),hst,playK_eq] at HRE
  obtain ⟨pb,hpb⟩:∃ pb,playF (toks s) L sc=pb:=⟨_,rfl⟩
  rw [hpb] at HRE HPL
  have HPB:=hide hpb
  have HP:=hide hP
  have HO:=hide ho
  have HG:=hide hG
  have HR:=hide hR
  clear h0 hP ho hG hR hst hpb HOK
  go_wp2_with fail
  refine HPL.out.mono ?_
  rintro e w2 ⟨rfl,hb2⟩
  have HB2:=hide hb2
  have HW2:Hid (Below w.heap.size w w2):=hide (HB1.out.trans (hb2.mono HB1.out.size))
  clear hb2 HPL
  cases pb with
  | false=>
   have HQ:Hid (er=11):=hide (by rw [HRE.out];rfl)
   go_wp2
   go_ret2
   exact ⟨_,by rw [HQ.out];rfl,by rw [HRR.out,if_neg (by rw [HQ.out];decide)];rfl,HW2.out⟩
  | true=>
   have HQ:Hid (er=0):=hide (by rw [HRE.out];rfl)
   obtain ⟨h400,hacts⟩:=(play_iff _ _ _).1 HPB.out
   have HACT:=hide hacts
   have HAO:=hide (play_acts hacts)
   have HA:Hid (Apart (netR (toks s) L)):=hide (net_apart _ _)
   obtain ⟨w3,hw3⟩:∃ w3,w3=w2.alloc (.cells #[.pointer (some ⟨q,0,none⟩),.slice AS sc.length CS,.slice none 0 0,.slice none 0 0] 66):=⟨_,rfl⟩
   have hP3:PstAt w3 w2.heap.size q (.slice AS sc.length CS) (.slice none 0 0) (.slice none 0 0):=by
    rw [hw3]
    exact World.rowIs_alloc w2 _ _ _ (fun i hi=>by
     have:i<4:=hi
     have:i=0∨i=1∨i=2∨i=3:=by omega
     rcases this with rfl | rfl | rfl | rfl <;> rfl)
   have hb3:Below w2.heap.size w2 w3:=by rw [hw3];exact (Below.refl _ _).alloc (Nat.le_refl _) _
   have hs3:w3.heap.size=w2.heap.size+1:=by rw [hw3];simp
   have hb13:Below w1.heap.size w1 w3:=HB2.out.trans (hb3.mono HB2.out.size)
   have HRT:=hide (rroutes_any w3 q g cap (toks s) L vE' vA vI vQ (HP.out.below hb13) HO.out)
   have HW3:=hide hw3
   have HP3:=hide hP3
   have HB3:=hide hb3
   have HS3:=hide hs3
   clear hacts hw3 hP3 hb3 hs3 hb13
   go_wp2_with fail
   rw [← HW3.out]
   refine HRT.out.mono ?_
   rintro e w4 ⟨vR,rfl,hown4,hrl,hb4⟩
   obtain ⟨aR,cR,rfl,hshR⟩:=own_shape hown4
   have hP4:=HP3.out.below hb4
   have c3:=hP4.cells.2.2.2
   have f3:=World.rowIs.frozen hP4 3
   obtain ⟨w5,hw5⟩:∃ w5,w5=w4.setCell ⟨w2.heap.size,3,none⟩ (.slice aR (routesR (toks s) L).length cR):=⟨_,rfl⟩
   have hs4:=hb4.size
   have hs5:w5.heap.size=w4.heap.size:=by rw [hw5];simp
   have hs3:=HS3.out
   have hP5:PstAt w5 w2.heap.size q (.slice AS sc.length CS) (.slice none 0 0) (.slice aR (routesR (toks s) L).length cR):=by
    rw [hw5]
    refine (World.rowIs.set hP4 3 _).congr (fun i hi=>?_)
    have:i=0∨i=1∨i=2∨i=3:=by omega
    rcases this with rfl | rfl | rfl | rfl <;> rfl
   have hO5:w5.ownsRow w3.heap.size 88 3 (.slice aR (routesR (toks s) L).length cR) (routesR (toks s) L).length (rtCells (routesR (toks s) L)):=by
    rw [hw5]
    exact own_same hown4 (fun b hb=>heap_setCell_other w4 ⟨w2.heap.size,3,none⟩ b _ (by have:=ownBlock_ge hown4 b hb;show b≠w2.heap.size;omega))
   have hb25:Below w2.heap.size w2 w5:=by rw [hw5];exact (HB3.out.trans (hb4.mono HB3.out.size)).setCell (by show w2.heap.size≤w2.heap.size;omega) _
   have HB25:=hide hb25
   have hb15:Below w1.heap.size w1 w5:=HB2.out.trans (hb25.mono HB2.out.size)
   have hbw5:Below w.heap.size w w5:=HW2.out.trans (hb25.mono HW2.out.size)
   have hquo:Int.tdiv (sc.length:Int) 2=(sc.length:Int) / 2:=by rw [Int.tdiv_eq_ediv_of_nonneg (by omega)]
   have hwn:IntKind.i64.wrap ((sc.length:Int) / 2)=(sc.length:Int) / 2:=by rw [IntKind.wrap_i64];omega
   have hwn2:IntKind.i64.wrap ((sc.length:Int) / 2+1)=((sc.length / 2+1:Nat):Int):=by rw [IntKind.wrap_i64];omega
   have HSM:=hide (rstreams_any w5 q g cap (toks s) L vE' vA vI vQ _ ins (HP.out.below hb15) (HX.out.below hbw5) HR.out HO.out (sc.length / 2+1) (by omega))
   have HP5:=hide hP5
   have HO5:=hide hO5
   have HW5:=hide hw5
   have HS5:Hid (w3.heap.size≤w5.heap.size):=hide (by omega)
   clear hown4 hshR hb4 hP4 hw5 hP5 hO5 hb25 hb15 hbw5 hs4 hs5 HRT HP3
   go_wp2_with fail
   rw [← HW5.out]
   refine HSM.out.mono ?_
   rintro e w6 ⟨vM,rfl,hO6,hb6⟩
   obtain ⟨aM,gM,cM,R,rfl,haM,hM,hRge,hgM⟩:=hO6.mat
   have HM:=hide hM
   have HAM:=hide haM
   have HRG:=hide hRge
   have HGM:=hide hgM
   have HP6:=hide (HP5.out.below hb6)
   have HO6:=hide (bel_own HO5.out hb6)
   have HB56:=hide hb6
   have HB26:Hid (Below w2.heap.size w2 w6):=hide (HB25.out.trans (hb6.mono HB25.out.size))
   clear hO6 hM haM hRge hgM hb6 HSM c3 f3 hquo hwn hwn2
   obtain ⟨N,hN⟩:∃ N,N=netR (toks s) L:=⟨_,rfl⟩
   obtain ⟨VF,hVF⟩:∃ VF,VF=valsR (toks s) L ins:=⟨_,rfl⟩
   have hNl:N.length≤6100:=by rw [hN,net_len];exact hrl
   rw [← hN] at HA
   have HN:=hide hN
   have HVF:=hide hVF
   clear hN hVF
   go_wp2
   go_loopw [14] (fun vi wr=>∃ (i:Nat) (vE:Value) (TV VV:Nat→Value),i≤sc.length∧vi = .int .i64 i∧PstAt wr w2.heap.size q (.slice AS sc.length CS) vE (.slice aR (routesR (toks s) L).length cR)∧EvG w6.heap.size wr vE ((pastI N VF sc i).map Prod.snd) TV VV∧Fr (fun j=>j<w6.heap.size∧j≠w2.heap.size) w6 wr) (fun vi _=>sc.length - (intOf vi).toNat)
   case atStart=>exact ⟨0,_,fun _=>.slice none 0 0,fun _=>.slice none 0 0,Nat.zero_le _,rfl,HP6.out,EvG.nil _ _ _ _,Fr.refl _ _⟩
   case round=>
    clear HW3 HW5
    obtain ⟨i,vE,TV,VV,hi,rfl,hpa,hev,hfr⟩:=hrel
    have sz6:=hfr.size
    have s3':=HS3.out
    have s5':=HS5.out
    have s56:=HB56.out.size
    have hpl:=past_len N VF sc hi
    by_cases hil:i<sc.length
    ·have hbw:Below w.heap.size w wr:=HW2.out.trans (Fr.to_below ((Fr.of_below HB26.out (X:=fun k=>k<w.heap.size) (fun k hk=>by have:=HW2.out.size;have hk':k<w.heap.size:=hk;omega)).trans (hfr.mono (fun k hk=>by have:=HW2.out.size;have hk':k<w.heap.size:=hk;exact ⟨by omega,by omega⟩))))
     have hb1r:Below w1.heap.size w1 wr:=HB2.out.trans (Fr.to_below ((Fr.of_below HB26.out (X:=fun k=>k<w1.heap.size) (fun k hk=>by have:=HB2.out.size;have hk':k<w1.heap.size:=hk;omega)).trans (hfr.mono (fun k hk=>by have:=HB2.out.size;have hk':k<w1.heap.size:=hk;exact ⟨by omega,by omega⟩))))
     obtain ⟨hPO,hPI⟩:=past_all VF HA.out HAO.out hil
     have hWk:Wk wr w2.heap.size q g cap (toks s) L vE' vA vI vQ sc (.slice AS sc.length CS) vE (.slice aR (routesR (toks s) L).length cR) (pastI N VF sc i) w6.heap.size TV VV:=by
      refine ⟨⟨hpa,HS.out.below hbw,hev,past_fst N VF sc hi,by omega,h400,fun x hx=>Nat.le_trans (past_tk N VF sc i hi x hx) hNl,fun x hx=>?_⟩,HP.out.below hb1r,own_zero (own_same HO6.out (fun b hb=>hfr.block b ⟨(HO6.out.lt b hb).2,by have:=ownBlock_ge HO6.out b hb;omega⟩))⟩
      obtain ⟨h1,h2⟩:=past_in N VF sc x hx
      obtain ⟨j,hj,hje⟩:=List.getElem_of_mem h1
      have ha:=HACT.out j hj
      have hb0:=ha.a0
      have hb1:=ha.b0
      have hb2:=ha.c0
      rw [← actF_get hj,hje] at hb0 hb1 hb2
      exact ⟨by rw [h2];exact hb0,hb1,hb2⟩
     have hMr:MatI wr gM (eqL L).length (sc.length / 2+1) R (sol (toks s) L ins):=by
      rcases Nat.eq_zero_or_pos (eqL L).length with h0 | h0
      ·exact ⟨fun j hj=>by omega,fun j hj=>by omega,HM.out.inj,HM.out.ne⟩
      ·exact HM.out.keep (hfr.block _ ⟨HM.out.lt h0,by have:=HGM.out;omega⟩) (fun j hj=>hfr.block _ ⟨World.rowIs.lt (HM.out.rows j hj),by have:=HRG.out j hj;omega⟩)
     have hdn:didF (pastI N VF sc i) sc[i].k 2 sc[i].a false<sc.length / 2+1:=by
      rw [did_all hPO]
      have h1:=cnt_len (pastI N VF sc i) sc[i].k
      have h2:=hPI.turn sc[i].k
      omega
     obtain ⟨bS,oS,rfl,hbS,hrS⟩:=HCS.out (by omega)
     obtain ⟨y0,y1,y2,y3⟩:=hrS i hil
     rw [← hbw.cell (p:=⟨bS,oS+i * 4,none⟩) hbS] at y0
     rw [← hbw.cell (p:=⟨bS,oS+i * 4+1,none⟩) hbS] at y1
     rw [← hbw.cell (p:=⟨bS,oS+i * 4+2,none⟩) hbS] at y2
     rw [← hbw.cell (p:=⟨bS,oS+i * 4+3,none⟩) hbS] at y3
     have hsn:=past_snd N VF sc hil
     have HWK:=hide (rwake_any wr w2.heap.size q g cap (toks s) L vE' vA vI vQ sc (.slice (some ⟨bS,oS,none⟩) sc.length CS) vE (.slice aR (routesR (toks s) L).length cR) (pastI N VF sc i) w6.heap.size TV VV hWk HO.out (by rw [← HN.out];exact hNl) ins sc[i].k sc[i].a sc[i].b sc[i].c aM gM cM (sc.length / 2+1) R HAM.out hMr hdn)
     rw [← HN.out,← HVF.out] at HWK
     have HSN:Hid ((pastI N VF sc (i+1)).map Prod.snd=(pastI N VF sc i).map Prod.snd ++ [wakeF N VF (pastI N VF sc i) ⟨sc[i].k,sc[i].a,sc[i].b,sc[i].c⟩]):=hide hsn
     generalize wakeF N VF (pastI N VF sc i) ⟨sc[i].k,sc[i].a,sc[i].b,sc[i].c⟩=ev at *
     obtain ⟨ek,ea,ed,en,eto,evs⟩:=ev
     have HPA:=hide hpa
     have HEV:=hide hev
     have HFR:=hide hfr
     have j3:(0:Int)≤(i:Int):=by omega
     have j4:(i:Int)<(sc.length:Int):=by omega
     clear hpa hev hfr hbw hb1r hPO hPI hWk hMr hdn hrS hsn
     go_wp2_with fail
     refine HWK.out.mono ?_
     rintro e w7 ⟨vT,vV,rfl,hoT,hoV,hb7⟩
     simp only [] at hoT hoV
     obtain ⟨aT,cT,eT,_⟩:=own_shape hoT
     obtain ⟨aV,cV,eV,_⟩:=own_shape hoV
     subst eT eV
     have s7:=hb7.size
     obtain ⟨lT,hlT⟩:∃ lT,lT=eto.length:=⟨_,rfl⟩
     obtain ⟨lV,hlV⟩:∃ lV,lV=evs.length:=⟨_,rfl⟩
     obtain ⟨w8,hw8⟩:∃ w8,w8=w7.alloc (.cells #[.int .i64 ek,.int .i64 ea,.int .i64 ed,.int .i64 en,.slice aT lT cT,.slice aV lV cV] 38):=⟨_,rfl⟩
     have hrow8:EvBox w8 w7.heap.size ek ea ed en (.slice aT lT cT) (.slice aV lV cV):=by rw [hw8];exact EvBox.boxed w7 _ _ _ _ _ _
     have hb78:Below w7.heap.size w7 w8:=by rw [hw8];exact (Below.refl _ _).alloc (Nat.le_refl _) _
     have hs8:w8.heap.size=w7.heap.size+1:=by rw [hw8];simp
     have hbr8:Below wr.heap.size wr w8:=hb7.trans (hb78.mono hb7.size)
     have hpa8:=HPA.out.below hbr8
     have hev8:=HEV.out.below hbr8
     have howc:=hev8.row
     rw [List.length_map,hpl] at howc
     have lb:=World.rowIs.lt HPA.out
     have lb8:=World.rowIs.lt hpa8
     have cb:=hpa8.cells.2.2.1
     have ca:∀ u,(w8.alloc u).cell? ⟨w2.heap.size,2,none⟩=some vE:=fun u=>(World.cell?_alloc_past _ _ _ lb8).trans cb
     have fa:∀ u,(w8.alloc u).frozen? ⟨w2.heap.size,2,none⟩=false:=fun u=>(World.frozen?_alloc_past _ _ _ lb8).trans (World.rowIs.frozen hpa8 2)
     have sc8:w8.cell? ⟨w7.heap.size,0,none⟩=some (.int .i64 ek)∧w8.cell? ⟨w7.heap.size,1,none⟩=some (.int .i64 ea)∧w8.cell? ⟨w7.heap.size,2,none⟩=some (.int .i64 ed)∧w8.cell? ⟨w7.heap.size,3,none⟩=some (.int .i64 en)∧w8.cell? ⟨w7.heap.size,4,none⟩=some (.slice aT lT cT)∧w8.cell? ⟨w7.heap.size,5,none⟩=some (.slice aV lV cV):=hrow8.cells
     have sa:∀ u,(w8.alloc u).cell? ⟨w7.heap.size,0,none⟩=some (.int .i64 ek)∧(w8.alloc u).cell? ⟨w7.heap.size,1,none⟩=some (.int .i64 ea)∧(w8.alloc u).cell? ⟨w7.heap.size,2,none⟩=some (.int .i64 ed)∧(w8.alloc u).cell? ⟨w7.heap.size,3,none⟩=some (.int .i64 en)∧(w8.alloc u).cell? ⟨w7.heap.size,4,none⟩=some (.slice aT lT cT)∧(w8.alloc u).cell? ⟨w7.heap.size,5,none⟩=some (.slice aV lV cV):=fun u=>EvBox.cells (World.rowIs.alloc hrow8 u)
     have ne1:some w2.heap.size≠vE.ownBlock:=fun e=>by have:=ownBlock_ge HEV.out.row _ e.symm;have:=HB26.out.size;omega
     have ne2:some w7.heap.size≠vE.ownBlock:=fun e=>by have:=(HEV.out.row.lt _ e.symm).2;omega
     have hB26:=HB26.out.size
     have m1:w2.heap.size≠w7.heap.size:=by omega
     have HNEXT:Hid (∀ gg cap2 w9,w9.ownsRow w6.heap.size 38 6 (.slice (some ⟨gg,0,none⟩) (i+1) cap2) (i+1) (evCells ((pastI N VF sc i).map Prod.snd) TV VV ++ [.int .i64 ek,.int .i64 ea,.int .i64 ed,.int .i64 en,.slice aT lT cT,.slice aV lV cV])→(w8.alloc (.cells #[.int .i64 ek,.int .i64 ea,.int .i64 ed,.int .i64 en,.slice aT lT cT,.slice aV lV cV] 38)).drew.grownBy w9 vE.ownBlock→(vE.ownBlock=some gg∨gg=w8.heap.size+1)→PstAt (w9.setCell ⟨w2.heap.size,2,none⟩ (.slice (some ⟨gg,0,none⟩) (i+1) cap2)) w2.heap.size q (.slice (some ⟨bS,oS,none⟩) sc.length CS) (.slice (some ⟨gg,0,none⟩) (i+1) cap2) (.slice aR (routesR (toks s) L).length cR)∧EvG w6.heap.size (w9.setCell ⟨w2.heap.size,2,none⟩ (.slice (some ⟨gg,0,none⟩) (i+1) cap2)) (.slice (some ⟨gg,0,none⟩) (i+1) cap2) ((pastI N VF sc (i+1)).map Prod.snd) (upG TV i (.slice aT lT cT)) (upG VV i (.slice aV lV cV))∧Fr (fun j=>j<w6.heap.size∧j≠w2.heap.size) w6 (w9.setCell ⟨w2.heap.size,2,none⟩ (.slice (some ⟨gg,0,none⟩) (i+1) cap2))):=hide (fun gg cap2 w9 ho hgr hat=>by
      have hsz9:w8.heap.size+1≤w9.heap.size:=by have:=hgr.size;simpa using this
      have hblk:∀ j,j<w8.heap.size→some j≠vE.ownBlock→w9.heap[j]? = w8.heap[j]?:=fun j h1 h2=>(hgr.block j (by simp;omega) h2).trans (heap_alloc_old w8 _ h1)
      have hgg:w6.heap.size≤gg:=ownBlock_ge ho gg rfl
      have hpre:EvG w6.heap.size w9 (.slice (some ⟨gg,0,none⟩) (i+1) cap2) ((pastI N VF sc i).map Prod.snd ++ [⟨ek,ea,ed,en,eto,evs⟩]) (upG TV ((pastI N VF sc i).map Prod.snd).length (.slice aT lT cT)) (upG VV ((pastI N VF sc i).map Prod.snd).length (.slice aV lV cV)):=by
       have hev9:EvG w6.heap.size (w8.alloc (.cells #[.int .i64 ek,.int .i64 ea,.int .i64 ed,.int .i64 en,.slice aT lT cT,.slice aV lV cV] 38)).drew vE ((pastI N VF sc i).map Prod.snd) TV VV:=hev8.below ((Below.refl _ _).alloc (Nat.le_refl _) _).drew
       refine hev9.snoc (e:=⟨ek,ea,ed,en,eto,evs⟩) ?_ ?_ ?_ ?_ hgr ?_ ?_
       ·show World.ownsRow _ _ _ _ (.slice aT lT cT) eto.length (pCells eto)
        rw [hlT]
        exact own_weak (bel_own (bel_own hoT hb78) ((Below.refl _ _).alloc (Nat.le_refl _) _).drew) (by omega)
       ·show World.ownsRow _ _ _ _ (.slice aV lV cV) evs.length (iCells evs)
        rw [hlV]
        exact own_weak (bel_own (bel_own hoV hb78) ((Below.refl _ _).alloc (Nat.le_refl _) _).drew) (by omega)
       ·intro b hb e
        rw [hlT] at hb
        have h1:=ownBlock_ge hoT b hb
        have h2:=(HEV.out.row.lt b e).2
        omega
       ·intro b hb e
        rw [hlV] at hb
        have h1:=ownBlock_ge hoV b hb
        have h2:=(HEV.out.row.lt b e).2
        omega
       ·rw [List.length_map,hpl];exact ho
       ·intro b hb
        have e':gg=b:=by simpa [Value.ownBlock] using hb
        rcases hat with hat | hat
        ·exact .inl (by rw [hat,e'])
        ·exact .inr (by simp;omega)
      refine ⟨?_,?_,?_⟩
      ·refine (World.rowIs.set (World.rowIs.of_block hpa8 (hblk _ lb8 ne1)) 2 _).congr (fun j hj=>?_)
       have:j=0∨j=1∨j=2∨j=3:=by omega
       rcases this with rfl | rfl | rfl | rfl <;> rfl
      ·rw [HSN.out]
       rw [List.length_map,hpl] at hpre
       exact hpre.blk (fun k hk _=>heap_setCell_other w9 ⟨w2.heap.size,2,none⟩ k _ (by show k≠w2.heap.size;omega))
      ·have hf:Fr (fun j=>j<w6.heap.size∧j≠w2.heap.size) w8 w9:=by
        have hbb:Below w8.heap.size w8 (w8.alloc (.cells #[.int .i64 ek,.int .i64 ea,.int .i64 ed,.int .i64 en,.slice aT lT cT,.slice aV lV cV] 38)).drew:=((Below.refl _ _).alloc (Nat.le_refl _) _).drew
        exact ⟨hgr.os.trans hbb.os,hgr.tape.trans hbb.tape,hgr.output.trans hbb.output,by omega,fun j hj=>hblk j (by omega) (fun e=>by have:=ownBlock_ge HEV.out.row j e.symm;omega)⟩
       exact ((HFR.out.trans (Fr.of_below hbr8 (fun j hj=>by omega))).trans hf).setCell (fun e=>e.2 rfl) _)
     generalize evCells ((pastI N VF sc i).map Prod.snd) TV VV=EC at *
     have HW8:=hide hw8
     have h400':i+1≤400:=by omega
     have hB8:w6.heap.size≤w8.heap.size:=by omega
     rw [← hlT,← hlV]
     clear hoT hoV hb7 hw8 hrow8 hb78 hbr8 hpa8 hev8 HWK y0 y1 y2 y3 HPA HEV HFR HSN hlT hlV hs8
     go_wp2_with fail
     rw [← HW8.out]
     clear HW8
     refine wp_region_held_drew (S:=(fun w'=>w'.cell? ⟨w7.heap.size,0,none⟩=some (.int .i64 ek)∧w'.cell? ⟨w7.heap.size,1,none⟩=some (.int .i64 ea)∧w'.cell? ⟨w7.heap.size,2,none⟩=some (.int .i64 ed)∧w'.cell? ⟨w7.heap.size,3,none⟩=some (.int .i64 en)∧w'.cell? ⟨w7.heap.size,4,none⟩=some (.slice aT lT cT)∧w'.cell? ⟨w7.heap.size,5,none⟩=some (.slice aV lV cV))) (by kernel_rfl) ?_ (fun hHeld=>?_)
     ·exact sc8
     refine wpAnyH_take (i:=0) (v:=?_) rfl (by kernel_rfl) (by kernel_rfl) (by kernel_rfl) (fun _ _ _ h=>h) (Or.inl ⟨by rfl,?_⟩) hHeld ?_
     rotate_left
     ·intro w hSw
      (try dsimp only at hSw)
      go_simp
      (try with_reducible rfl)
     simp only [Act.put,List.setIfInBounds_toArray]
     refine wpAnyH_take (i:=1) (v:=?_) rfl (by kernel_rfl) (by kernel_rfl) (by kernel_rfl) (fun _ _ _ h=>h) (Or.inl ⟨by rfl,?_⟩) hHeld ?_
     rotate_left
     ·intro w hSw
      (try dsimp only at hSw)
      go_simp
      (try with_reducible rfl)
     simp only [Act.put]
     refine wpAnyH_take (i:=2) (v:=?_) rfl (by kernel_rfl) (by kernel_rfl) (by kernel_rfl) (fun _ _ _ h=>h) (Or.inl ⟨by rfl,?_⟩) hHeld ?_
     rotate_left
     ·intro w hSw
      (try dsimp only at hSw)
      go_simp
      (try with_reducible rfl)
     simp only [Act.put]
     refine wpAnyH_take (i:=3) (v:=?_) rfl (by kernel_rfl) (by kernel_rfl) (by kernel_rfl) (fun _ _ _ h=>h) (Or.inl ⟨by rfl,?_⟩) hHeld ?_
     rotate_left
     ·intro w hSw
      (try dsimp only at hSw)
      go_simp
      (try with_reducible rfl)
     simp only [Act.put]
     refine wpAnyH_take (i:=5) (v:=?_) rfl (by kernel_rfl) (by kernel_rfl) (by kernel_rfl) (fun _ _ _ h=>h) (Or.inl ⟨by rfl,?_⟩) hHeld ?_
     rotate_left
     ·intro w hSw
      (try dsimp only at hSw)
      go_simp
      (try with_reducible rfl)
     simp only [Act.put]
     refine wpAnyH_ready (rs:=[4,6]) (by kernel_rfl) (by simp) ?_
     refine AllReadyH.cons rfl (fun K hK=>?_) (AllReadyH.cons rfl (fun K hK=>?_) AllReadyH.nil)
     ·go_simp
      refine hK.out _ _ hHeld (fun _=>?_)
      clear hK K
      refine wpAnyH_ready (rs:=[6]) (by kernel_rfl) (by simp) ?_
      refine AllReadyH.cons rfl (fun K hK=>?_) AllReadyH.nil
      go_simp
      refine hK.out _ _ (sa _) (fun _=>?_)
      clear hK K
      refine wpAnyH_ready (rs:=[7]) (by kernel_rfl) (by simp) ?_
      refine AllReadyH.cons rfl (fun K hK=>?_) AllReadyH.nil
      refine step_append_lies _ (by rfl) _ _ _ (by rfl) w6.heap.size 38 i0 _ 6 80 Tryz.underlying29 hi0 hz0 hz1 hz2 rfl (by omega) vE i EC (by rfl) ((howc.alloc _).drew) ⟨w8.heap.size,0,none⟩ 1 1 [.int .i64 ek,.int .i64 ea,.int .i64 ed,.int .i64 en,.slice aT lT cT,.slice aV lV cV] (by rfl) (by rfl) (World.news_of_block (cs:=#[.int .i64 ek,.int .i64 ea,.int .i64 ed,.int .i64 en,.slice aT lT cT,.slice aV lV cV]) (t:=38) (fr:=(0,0)) (heap_alloc_new w8 _)) (by simp [Value.oneCell']) (by omega) (by unfold maxLen;omega) (by omega) (by simp;omega) (w8.heap.size+1) (by simp) ?_
      intro gg cap2 w9 hown3 hgrow hat hlt3
      have k4:=hgrow.cell (a:=⟨w2.heap.size,2,none⟩) (ca _) ne1
      have e4:=(hgrow.frozen_far ⟨w2.heap.size,2,none⟩ (by simp;omega) ne1).trans (fa _)
      have z0:=hgrow.cell (a:=⟨w7.heap.size,0,none⟩) (sa _).1 ne2
      have z1:=hgrow.cell (a:=⟨w7.heap.size,1,none⟩) (sa _).2.1 ne2
      have z2:=hgrow.cell (a:=⟨w7.heap.size,2,none⟩) (sa _).2.2.1 ne2
      have z3:=hgrow.cell (a:=⟨w7.heap.size,3,none⟩) (sa _).2.2.2.1 ne2
      have z4:=hgrow.cell (a:=⟨w7.heap.size,4,none⟩) (sa _).2.2.2.2.1 ne2
      have z5:=hgrow.cell (a:=⟨w7.heap.size,5,none⟩) (sa _).2.2.2.2.2 ne2
      refine hK.out _ _ ⟨z0,z1,z2,z3,z4,z5⟩ (fun hHeld3=>?_)
      clear hK K
      simp only [Act.put,List.setIfInBounds_toArray]
      refine wpAnyH_take (i:=8) (v:=?_) rfl (by kernel_rfl) (by kernel_rfl) (by kernel_rfl) (fun _ _ _ h=>h) (Or.inl ⟨by rfl,?_⟩) hHeld3 ?_
      rotate_left
      ·intro w hSw
       (try dsimp only at hSw)
       go_simp
       (try with_reducible rfl)
      simp only [Act.put]
      refine wpAnyH_take (i:=9) (v:=?_) rfl (by kernel_rfl) (by kernel_rfl) (by kernel_rfl) (fun _ _ _ h=>h) (Or.inl ⟨by rfl,?_⟩) hHeld3 ?_
      rotate_left
      ·intro w hSw
       (try dsimp only at hSw)
       go_simp
       (try with_reducible rfl)
      simp only [Act.put]
      refine wpAnyH_ready (rs:=[10]) (by kernel_rfl) (by simp) ?_
      refine AllReadyH.cons rfl (fun K hK=>?_) AllReadyH.nil
      go_simp
      refine hK.out _ _ ⟨(World.cell?_setCell_other _ _ _ _ (fun e=>m1 (congrArg Addr.block e))).trans z0,(World.cell?_setCell_other _ _ _ _ (fun e=>m1 (congrArg Addr.block e))).trans z1,(World.cell?_setCell_other _ _ _ _ (fun e=>m1 (congrArg Addr.block e))).trans z2,(World.cell?_setCell_other _ _ _ _ (fun e=>m1 (congrArg Addr.block e))).trans z3,(World.cell?_setCell_other _ _ _ _ (fun e=>m1 (congrArg Addr.block e))).trans z4,(World.cell?_setCell_other _ _ _ _ (fun e=>m1 (congrArg Addr.block e))).trans z5⟩ (fun _=>?_)
      clear hK K
      refine wpAnyH_done (by kernel_rfl) ?_ _
      have HNX:=hide (HNEXT.out gg cap2 w9 hown3 hgrow hat)
      clear hown3 hgrow hat hlt3 k4 e4 z0 z1 z2 z3 z4 z5
      go_wp2
      go_roundw
      case rel=>exact ⟨i+1,_,_,_,by omega,by go_num,HNX.out.1,HNX.out.2.1,HNX.out.2.2⟩
      case measure=>simp [intOf];omega
     ·go_simp
      refine hK.out _ _ (sa _) (fun _=>?_)
      clear hK K
      refine wpAnyH_ready (rs:=[4]) (by kernel_rfl) (by simp) ?_
      refine AllReadyH.cons rfl (fun K hK=>?_) AllReadyH.nil
      go_simp
      refine hK.out _ _ (sa _) (fun _=>?_)
      clear hK K
      refine wpAnyH_ready (rs:=[7]) (by kernel_rfl) (by simp) ?_
      refine AllReadyH.cons rfl (fun K hK=>?_) AllReadyH.nil
      refine step_append_lies _ (by rfl) _ _ _ (by rfl) w6.heap.size 38 i0 _ 6 80 Tryz.underlying29 hi0 hz0 hz1 hz2 rfl (by omega) vE i EC (by rfl) ((howc.alloc _).drew) ⟨w8.heap.size,0,none⟩ 1 1 [.int .i64 ek,.int .i64 ea,.int .i64 ed,.int .i64 en,.slice aT lT cT,.slice aV lV cV] (by rfl) (by rfl) (World.news_of_block (cs:=#[.int .i64 ek,.int .i64 ea,.int .i64 ed,.int .i64 en,.slice aT lT cT,.slice aV lV cV]) (t:=38) (fr:=(0,0)) (heap_alloc_new w8 _)) (by simp [Value.oneCell']) (by omega) (by unfold maxLen;omega) (by omega) (by simp;omega) (w8.heap.size+1) (by simp) ?_
      intro gg cap2 w9 hown3 hgrow hat hlt3
      have k4:=hgrow.cell (a:=⟨w2.heap.size,2,none⟩) (ca _) ne1
      have e4:=(hgrow.frozen_far ⟨w2.heap.size,2,none⟩ (by simp;omega) ne1).trans (fa _)
      have z0:=hgrow.cell (a:=⟨w7.heap.size,0,none⟩) (sa _).1 ne2
      have z1:=hgrow.cell (a:=⟨w7.heap.size,1,none⟩) (sa _).2.1 ne2
      have z2:=hgrow.cell (a:=⟨w7.heap.size,2,none⟩) (sa _).2.2.1 ne2
      have z3:=hgrow.cell (a:=⟨w7.heap.size,3,none⟩) (sa _).2.2.2.1 ne2
      have z4:=hgrow.cell (a:=⟨w7.heap.size,4,none⟩) (sa _).2.2.2.2.1 ne2
      have z5:=hgrow.cell (a:=⟨w7.heap.size,5,none⟩) (sa _).2.2.2.2.2 ne2
      refine hK.out _ _ ⟨z0,z1,z2,z3,z4,z5⟩ (fun hHeld3=>?_)
      clear hK K
      simp only [Act.put,List.setIfInBounds_toArray]
      refine wpAnyH_take (i:=8) (v:=?_) rfl (by kernel_rfl) (by kernel_rfl) (by kernel_rfl) (fun _ _ _ h=>h) (Or.inl ⟨by rfl,?_⟩) hHeld3 ?_
      rotate_left
      ·intro w hSw
       (try dsimp only at hSw)
       go_simp
       (try with_reducible rfl)
      simp only [Act.put]
      refine wpAnyH_take (i:=9) (v:=?_) rfl (by kernel_rfl) (by kernel_rfl) (by kernel_rfl) (fun _ _ _ h=>h) (Or.inl ⟨by rfl,?_⟩) hHeld3 ?_
      rotate_left
      ·intro w hSw
       (try dsimp only at hSw)
       go_simp
       (try with_reducible rfl)
      simp only [Act.put]
      refine wpAnyH_ready (rs:=[10]) (by kernel_rfl) (by simp) ?_
      refine AllReadyH.cons rfl (fun K hK=>?_) AllReadyH.nil
      go_simp
      refine hK.out _ _ ⟨(World.cell?_setCell_other _ _ _ _ (fun e=>m1 (congrArg Addr.block e))).trans z0,(World.cell?_setCell_other _ _ _ _ (fun e=>m1 (congrArg Addr.block e))).trans z1,(World.cell?_setCell_other _ _ _ _ (fun e=>m1 (congrArg Addr.block e))).trans z2,(World.cell?_setCell_other _ _ _ _ (fun e=>m1 (congrArg Addr.block e))).trans z3,(World.cell?_setCell_other _ _ _ _ (fun e=>m1 (congrArg Addr.block e))).trans z4,(World.cell?_setCell_other _ _ _ _ (fun e=>m1 (congrArg Addr.block e))).trans z5⟩ (fun _=>?_)
      clear hK K
      refine wpAnyH_done (by kernel_rfl) ?_ _
      have HNX:=hide (HNEXT.out gg cap2 w9 hown3 hgrow hat)
      clear hown3 hgrow hat hlt3 k4 e4 z0 z1 z2 z3 z4 z5
      go_wp2
      go_roundw
      case rel=>exact ⟨i+1,_,_,_,by omega,by go_num,HNX.out.1,HNX.out.2.1,HNX.out.2.2⟩
      case measure=>simp [intOf];omega
    ·have ei:i=sc.length:=by omega
     subst ei
     have c2:=hpa.cells.2.2.1
     have hEq:(pastI N VF sc sc.length).map Prod.snd=evsR (toks s) L ins sc:=by
      unfold pastI evsR
      rw [List.take_length,HN.out,HVF.out]
     rw [hEq] at hev
     have HF:Hid (Below w.heap.size w wr):=hide (HW2.out.trans (Fr.to_below ((Fr.of_below HB26.out (X:=fun k=>k<w.heap.size) (fun k hk=>by have:=HW2.out.size;have hk':k<w.heap.size:=hk;omega)).trans (hfr.mono (fun k hk=>by have:=HW2.out.size;have hk':k<w.heap.size:=hk;exact ⟨by omega,by omega⟩)))))
     have HEE:Hid (∃ L TV VV,RGood s L∧Right (toks s) L∧EvG w.heap.size wr vE (evsR (toks s) L ins sc) TV VV):=hide ⟨L,TV,VV,HG.out,HR.out,by
      have hle:w.heap.size≤w6.heap.size:=Nat.le_trans HW2.out.size HB26.out.size
      exact ⟨own_weak hev.row hle,fun i hi=>own_weak (hev.took i hi) hle,fun i hi=>own_weak (hev.vals i hi) hle,hev.neT,hev.neV⟩⟩
     obtain ⟨aE,cE,eE,_⟩:=own_shape hev.row
     subst eE
     clear hpa hev hfr
     go_wp2
     go_ret2
     exact ⟨_,by rw [HQ.out];rfl,by rw [HRR.out,if_pos HQ.out];exact HEE.out,HF.out⟩
 ·have q1:(((textF s).1:Int) != 0)=true:=by rw [bne_iff_ne];omega
  have HQ:Hid (er=(textF s).1):=hide (by rw [HRE.out,if_pos h0])
  have HQ0:Hid (er≠0):=hide (by rw [HQ.out];exact h0)
  clear HOK h0
  go_wp2
  go_ret2
  exact ⟨_,by rw [HQ.out];rfl,by rw [HRR.out,if_neg HQ0.out];rfl,HB1.out⟩
end Go.Proofs.YtmndgoapkmhglabGreat
