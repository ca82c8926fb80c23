import Derived.Deep.RegionHeld3
import Derived.Deep.CutRange
import Derived.Test.YtmndgoapkmhglabGreatM37RuF
namespace Go.Proofs.YtmndgoapkmhglabGreat
open Go.RowKit
attribute [local go_sem ↓] Go.wp_at_zero Go.wp_at_succ
def WakeQ (w w':World) (ev:EvF) (e:Ending):Prop:=∃ vT vV,e = .returned (.agg #[.int .i64 ev.k,.int .i64 ev.a,.int .i64 ev.did,.int .i64 ev.n,vT,vV])∧w'.ownsRow w.heap.size 3 1 vT ev.took.length (pCells ev.took)∧w'.ownsRow w.heap.size 3 1 vV ev.vals.length (iCells ev.vals)∧Below w.heap.size w w'
theorem wake_eq (N:List LnF) (V:Int→Nat→List Int) (P:PastF) (a:OpF):wakeF N V P a=⟨a.k,a.a,if wRdy N P a N.length then 1 else if wFre N P a N.length then 2 else 0,if wRdy N P a N.length then (didF P a.k 1 a.a false:Int) else if wFre N P a N.length then (didF P a.k 2 a.a false:Int) else 0,wTook N P a N.length,if wRdy N P a N.length then [] else if wFre N P a N.length then V a.k (didF P a.k 2 a.a false) else []⟩:=rfl
set_option maxHeartbeats 16000000 in
set_option maxRecDepth 100000 in
theorem rwake_any (w:World) (hb q g cap:Nat) (ts:List Tk) (L:List Dl) (vE' vA vI vQ:Value) (sc:List OpF) (vS vE vR:Value) (P:PastF) (B:Nat) (TV VV:Nat→Value) (h:Wk w hb q g cap ts L vE' vA vI vQ sc vS vE vR P B TV VV) (ho:ROk ts L) (hN:(netR ts L).length≤6100) (ins:List (List Int)) (k0 a0 b0 c0:Int)
  (aM:Option Addr) (gM cM n:Nat) (R:Nat→Nat) (haM:0<(eqL L).length→aM=some ⟨gM,0,none⟩) (hM:MatI w gM (eqL L).length n R (sol ts L ins)) (hn:didF P k0 2 a0 false<n) :
  Calls Tryz.prog 22 #[.pointer (some ⟨hb,0,none⟩),.agg #[.int .i64 k0,.int .i64 a0,.int .i64 b0,.int .i64 c0],.slice aM (eqL L).length cM] w fun e w'=>WakeQ w w' (wakeF (netR ts L) (valsR ts L ins) P ⟨k0,a0,b0,c0⟩) e:=by
 obtain ⟨i0,hi0,hz0,hz1,hz2⟩:=info_parts Tryz.infoInt
 have hd1:=didF_len P k0 1 a0 false
 have hd2:=didF_len P k0 2 a0 false
 have hPl:P.length≤400:=Nat.le_trans h.pst.le h.pst.few
 have HQ:Hid (∀ w' e,WakeQ w w' (wakeF (netR ts L) (valsR ts L ins) P ⟨k0,a0,b0,c0⟩) e=WakeQ w w' ⟨k0,a0,if wRdy (netR ts L) P ⟨k0,a0,b0,c0⟩ (netR ts L).length then 1 else if wFre (netR ts L) P ⟨k0,a0,b0,c0⟩ (netR ts L).length then 2 else 0,if wRdy (netR ts L) P ⟨k0,a0,b0,c0⟩ (netR ts L).length then (didF P k0 1 a0 false:Int) else if wFre (netR ts L) P ⟨k0,a0,b0,c0⟩ (netR ts L).length then (didF P k0 2 a0 false:Int) else 0,wTook (netR ts L) P ⟨k0,a0,b0,c0⟩ (netR ts L).length,if wRdy (netR ts L) P ⟨k0,a0,b0,c0⟩ (netR ts L).length then [] else if wFre (netR ts L) P ⟨k0,a0,b0,c0⟩ (netR ts L).length then valsR ts L ins k0 (didF P k0 2 a0 false) else []⟩ e):=hide (fun w' e=>by rw [wake_eq])
 generalize hQ1:(fun e w'=>WakeQ w w' (wakeF (netR ts L) (valsR ts L ins) P ⟨k0,a0,b0,c0⟩) e)=Q1
 have HQ1:Hid (∀ e w',WakeQ w w' (wakeF (netR ts L) (valsR ts L ins) P ⟨k0,a0,b0,c0⟩) e→Q1 e w'):=hide (fun e w' h=>by rw [← hQ1];exact h)
 clear hQ1
 obtain ⟨w0,hw0⟩:∃ w0,w0=w.alloc (.cells #[.int .i64 k0,.int .i64 a0,.int .i64 b0,.int .i64 c0] 49):=⟨_,rfl⟩
 obtain ⟨w1,hw1⟩:∃ w1,w1=w0.alloc (.cells #[.int .i64 0,.int .i64 0,.int .i64 0,.int .i64 0,.slice none 0 0,.slice none 0 0] 38):=⟨_,rfl⟩
 obtain ⟨w2,hw2⟩:∃ w2,w2=w1.alloc (.cells #[.int .i64 k0,.int .i64 a0,.int .i64 0,.int .i64 0,.slice none 0 0,.slice none 0 0] 38):=⟨_,rfl⟩
 have hs0:w0.heap.size=w.heap.size+1:=by rw [hw0];simp
 have hs1:w1.heap.size=w.heap.size+2:=by rw [hw1];simp [hs0]
 have hs2:w2.heap.size=w.heap.size+3:=by rw [hw2];simp [hs1]
 have hB2:Below w.heap.size w w2:=by
  rw [hw2,hw1,hw0]
  exact (((Below.refl _ _).alloc (Nat.le_refl _) _).alloc (by simp) _).alloc (by simp;omega) _
 have hI2:WkI w w2 ⟨k0,a0,b0,c0⟩ [] (.slice none 0 0):=by
  refine ⟨?_,?_,?_,World.ownsRow_nil _ _ _ _,hB2,by omega⟩
  ·rw [hw2,← hs1];exact EvBox.boxed w1 _ _ _ _ _ _
  ·rw [hw2,hw1,hw0];exact World.rowIs.alloc (World.rowIs.alloc (ActAt.boxed w ⟨k0,a0,b0,c0⟩) _) _
  ·rw [hw2]
   refine World.rowIs.alloc ?_ _
   rw [hw1,← hs0];exact EvBox.boxed w0 _ _ _ _ _ _
 have H:=hide h
 have HO:=hide ho
 have HM:=hide hM
 have HAM:=hide haM
 have HD1:=hide (rdid_any w2 hb q sc vS vE vR P B TV VV (h.pst.below hB2) k0 1 a0 false)
 have HD2:=hide (fun W hW=>rdid_any W hb q sc vS vE vR P B TV VV (h.pst.below hW) k0 2 a0 false)
 obtain ⟨aR,cR,eR,hshR⟩:=own_shape h.rts
 subst eR
 have HSR:=hide hshR
 have HW0:=hide hw0
 have HW1:=hide hw1
 have HW2:=hide hw2
 have HI2:=hide hI2
 have HB2:=hide hB2
 have HNL:Hid ((netR ts L).length=(routesR ts L).length):=hide (net_len ts L)
 have HST:Hid (∀ l,slotF (netR ts L) P ⟨k0,a0,b0,c0⟩ l=(takenF a0 l false P:Int)+(lateN (netR ts L) l:Int) - (didF P k0 1 a0 false:Int)):=hide (fun _=>rfl)
 have HCN:Hid (∀ l,canF (netR ts L) P ⟨k0,a0,b0,c0⟩ l=(decide ((lnAt (netR ts L) l).dst=k0) && (decide (slotF (netR ts L) P ⟨k0,a0,b0,c0⟩ l=0) && decide (takenF a0 l false P<didF P (lnAt (netR ts L) l).src 2 a0 true)))):=hide (fun _=>rfl)
 have HR0:Hid (wRdy (netR ts L) P ⟨k0,a0,b0,c0⟩ 0=decide (didF P k0 1 a0 false=didF P k0 2 a0 false)):=hide (by unfold wRdy;simp)
 have HF0:Hid (wFre (netR ts L) P ⟨k0,a0,b0,c0⟩ 0=decide (didF P k0 2 a0 false<didF P k0 1 a0 false)):=hide (by unfold wFre;simp)
 have HRS:Hid (∀ l,wRdy (netR ts L) P ⟨k0,a0,b0,c0⟩ (l+1)=(wRdy (netR ts L) P ⟨k0,a0,b0,c0⟩ l && (!decide ((lnAt (netR ts L) l).dst=k0) || decide ((if canF (netR ts L) P ⟨k0,a0,b0,c0⟩ l then 1 else slotF (netR ts L) P ⟨k0,a0,b0,c0⟩ l)=1)))):=hide (fun l=>wRdy_succ _ _ _ l)
 have HFS:Hid (∀ l,wFre (netR ts L) P ⟨k0,a0,b0,c0⟩ (l+1)=(wFre (netR ts L) P ⟨k0,a0,b0,c0⟩ l && (!decide ((lnAt (netR ts L) l).src=k0) || decide (takenF a0 l true P=didF P k0 2 a0 false)))):=hide (fun l=>wFre_succ _ _ _ l)
 have HFULL:=hide (fun W hW l hl=>rfull_any W hb q g cap ts L vE' vA vI vQ sc vS vE (.slice aR (routesR ts L).length cR) P B TV VV (h.below hW) l hl (didF P k0 1 a0 false) (by omega) a0)
 obtain ⟨s1,hs1'⟩:∃ s1,s1=didF P k0 1 a0 false:=⟨_,rfl⟩
 obtain ⟨s2,hs2'⟩:∃ s2,s2=didF P k0 2 a0 false:=⟨_,rfl⟩
 rw [← hs1'] at HD1 HST HR0 HF0 HFULL hd1 HQ
 rw [← hs2'] at HD2 HR0 HF0 HFS hd2 HQ hn
 obtain ⟨r0,hr0⟩:∃ r0,((s1:Int) == (s2:Int))=r0:=⟨_,rfl⟩
 obtain ⟨f0,hf0⟩:∃ f0,decide ((s1:Int) > (s2:Int))=f0:=⟨_,rfl⟩
 have hr0':decide (s1=s2)=r0:=by rw [← hr0,Bool.eq_iff_iff,decide_eq_true_iff,beq_iff_eq];omega
 have hf0':decide (s2<s1)=f0:=by rw [← hf0,Bool.eq_iff_iff,decide_eq_true_iff,decide_eq_true_iff];omega
 rw [hr0'] at HR0
 rw [hf0'] at HF0
 have hr0n:(s1 == s2)=r0:=by rw [← hr0'];rfl
 have hf0n:decide (s1 > s2)=f0:=hf0'
 have HTS:Hid (∀ l,wTook (netR ts L) P ⟨k0,a0,b0,c0⟩ (l+1)=wTook (netR ts L) P ⟨k0,a0,b0,c0⟩ l ++ (if canF (netR ts L) P ⟨k0,a0,b0,c0⟩ l then [l] else [])):=hide (fun l=>wTook_succ _ _ _ l)
 have HTL:Hid (∀ l,(wTook (netR ts L) P ⟨k0,a0,b0,c0⟩ l).length≤l):=hide (fun l=>wTook_len _ _ _ l)
 have HTZ:Hid (wTook (netR ts L) P ⟨k0,a0,b0,c0⟩ 0=[]):=hide rfl
 generalize wRdy (netR ts L) P ⟨k0,a0,b0,c0⟩=RD at *
 generalize wFre (netR ts L) P ⟨k0,a0,b0,c0⟩=FR at *
 generalize wTook (netR ts L) P ⟨k0,a0,b0,c0⟩=TK at *
 generalize canF (netR ts L) P ⟨k0,a0,b0,c0⟩=CN at *
 generalize slotF (netR ts L) P ⟨k0,a0,b0,c0⟩=SL at *
 have HFROM:=hide (fun W hW l hl=>rfrom_any W hb q g cap ts L vE' vA vI vQ sc vS vE (.slice aR (routesR ts L).length cR) P B TV VV (h.below hW) ho l hl)
 have HDI:=hide (fun W hW pl=>rdid_any W hb q sc vS vE (.slice aR (routesR ts L).length cR) P B TV VV (h.pst.below hW) pl 2 a0 true)
 have HT0:=hide (fun W hW l=>rtaken_any W hb q sc vS vE (.slice aR (routesR ts L).length cR) P B TV VV (h.pst.below hW) l a0 false)
 have HT1:=hide (fun W hW l=>rtaken_any W hb q sc vS vE (.slice aR (routesR ts L).length cR) P B TV VV (h.pst.below hW) l a0 true)
 obtain ⟨z0,z1,z2,z3⟩:=hI2.act.cells
 simp only [] at z0 z1 z2 z3
 clear h ho hM haM hshR hw0 hw1 hw2 hI2 hB2 hs0 hs1 hs2 hs1' hs2'
 go_enter Tryz.func22,Tryz.ntmps22
 go_wp2_with fail
 rw [← HW0.out,← HW1.out,← HW2.out]
 refine HD1.out.mono ?_
 rintro e w3 ⟨rfl,hb3⟩
 have hB3:=HB2.out.trans (hb3.mono HB2.out.size)
 have hI3:=HI2.out.below hb3
 clear z0 z1 z2 z3
 obtain ⟨z0,z1,z2,z3⟩:=hI3.act.cells
 simp only [] at z0 z1 z2 z3
 have HI3:=hide hI3
 have HB3:=hide hB3
 clear hb3 hB3 hI3 HD1 HI2 HB2 HW0 HW1 HW2
 go_wp2_with fail
 refine (HD2.out w3 HB3.out).mono ?_
 rintro e w4 ⟨rfl,hb4⟩
 have HI4:=hide (HI3.out.below hb4)
 clear hb4 z0 z1 z2 z3 HD2
 go_wp2
 go_loopw [10,11,12] (fun v10 v11 vl wr=>∃ (l:Nat) (vT:Value),l≤(netR ts L).length∧vl = .int .i64 l∧v10 = .bool (RD l)∧v11 = .bool (FR l)∧WkI w wr ⟨k0,a0,b0,c0⟩ (TK l) vT) (fun _ _ vl _=>(netR ts L).length - (intOf vl).toNat)
 case atStart=>exact ⟨0,_,Nat.zero_le _,rfl,by rw [HR0.out],by rw [HF0.out],by rw [HTZ.out];exact HI4.out⟩
 case round=>
  clear HI4 HI3 HB3 HR0 HF0 hr0 hf0 hr0' hf0' hr0n hf0n
  obtain ⟨l,vT,hl,rfl,rfl,rfl,hI⟩:=hrel
  obtain ⟨rb,hrb⟩:∃ rb,RD l=rb:=⟨_,rfl⟩
  obtain ⟨fb,hfb⟩:∃ fb,FR l=fb:=⟨_,rfl⟩
  rw [hrb,hfb]
  obtain ⟨z0,z1,z2,z3⟩:=hI.act.cells
  simp only [] at z0 z1 z2 z3
  have HI:=hide hI
  have hHB:=H.out.below hI.bel
  obtain ⟨y0,y1,y2,y3⟩:=hHB.pst.at'.cells
  by_cases hll:l<(netR ts L).length
  ·have hlr:l<(routesR ts L).length:=by rw [← HNL.out];exact hll
   obtain ⟨gR,rfl,_,hgR⟩:=HSR.out (by omega)
   obtain ⟨r,x,hr,_,_,hln,_,_,_⟩:=net_at hll
   have hr':r=(routesR ts L)[l]'hlr:=by rw [List.getElem?_eq_getElem hlr] at hr;exact (Option.some.inj hr).symm
   have hdst:(lnAt (netR ts L) l).dst=(r.dst:Int):=by rw [hln]
   have HCE:Hid (∀ W,Below wr.heap.size wr W→W.cell? ⟨hb,3,none⟩=some (.slice (some ⟨gR,0,none⟩) (routesR ts L).length cR)∧W.cell? ⟨gR,l * 3+1,none⟩=some (.int .i64 (r.dst:Int))∧W.cell? ⟨w.heap.size,0,none⟩=some (.int .i64 k0)):=hide (fun W hW=>by
    have hWk:=hHB.below hW
    obtain ⟨_,_,_,u3⟩:=hWk.pst.at'.cells
    obtain ⟨_,u1,_⟩:=rtAt_cells hWk.rts hlr r hr'
    exact ⟨u3,u1,(hI.below hW).act.cells.1⟩)
   have hrd:=HRS.out l
   have hfr:=HFS.out l
   have htk:=HTS.out l
   have hcn:=HCN.out l
   have hsl:=HST.out l
   rw [hdst] at hrd hcn
   rw [hrb] at hrd
   rw [hfb] at hfr
   have HF1:=hide (HFROM.out wr hI.bel l hll)
   have HF2:=hide (fun W hW=>HFULL.out W hW l hll)
   have htb:=takenF_le a0 l false P H.out.pst.tk
   have HDI1:=hide (fun W hW=>HDI.out W hW (lnAt (netR ts L) l).src)
   have HT0l:=hide (fun W hW=>HT0.out W hW l)
   have HT1l:=hide (fun W hW=>HT1.out W hW l)
   rw [← hsl] at HF2
   generalize (lnAt (netR ts L) l).src=sr at *
   generalize takenF a0 l false P=t0 at *
   generalize takenF a0 l true P=t1 at *
   generalize didF P sr 2 a0 true=cm at *
   generalize SL l=sl at *
   obtain ⟨q1,hq1⟩:∃ q1,((r.dst:Int) == k0)=q1:=⟨_,rfl⟩
   obtain ⟨q2,hq2⟩:∃ q2,(sl == 0)=q2:=⟨_,rfl⟩
   obtain ⟨q3,hq3⟩:∃ q3,decide ((cm:Int) > (t0:Int))=q3:=⟨_,rfl⟩
   obtain ⟨q4,hq4⟩:∃ q4,(sr == k0)=q4:=⟨_,rfl⟩
   obtain ⟨q5,hq5⟩:∃ q5,((t1:Int) == (s2:Int))=q5:=⟨_,rfl⟩
   obtain ⟨q6,hq6⟩:∃ q6,(sl == 1)=q6:=⟨_,rfl⟩
   have g1:decide ((r.dst:Int)=k0)=q1:=by rw [← hq1];rfl
   have g2:decide (sl=0)=q2:=by rw [← hq2];rfl
   have g3:decide (t0<cm)=q3:=by rw [← hq3,Bool.eq_iff_iff,decide_eq_true_iff,decide_eq_true_iff];omega
   have g4:decide (sr=k0)=q4:=by rw [← hq4];rfl
   have g5:decide (t1=s2)=q5:=by rw [← hq5,Bool.eq_iff_iff,decide_eq_true_iff,beq_iff_eq];omega
   have g6:decide (sl=1)=q6:=by rw [← hq6];rfl
   rw [g1,g2,g3] at hcn
   have HRD:Hid (RD (l+1)=(rb && (!q1 || (if (q1 && (q2 && q3))=true then true else q6)))):=hide (by
    rw [hrd,g1,hcn]
    congr 2
    cases (q1 && (q2 && q3))
    ·simpa using g6
    ·simp)
   have HFR:Hid (FR (l+1)=(fb && (!q4 || q5))):=hide (by rw [hfr,g4,g5])
   have HTK:Hid (TK (l+1)=TK l ++ (if (q1 && (q2 && q3))=true then [l] else [])):=hide (by rw [htk,hcn])
   have hq3n:decide (cm > t0)=q3:=g3
   have hq5n:(t1 == s2)=q5:=by rw [← g5];rfl
   have htl:=HTL.out l
   have i1:(0:Int)≤(l:Int):=by omega
   have i2:(l:Int)<((routesR ts L).length:Int):=by omega
   clear hrd hfr htk hcn hsl g1 g2 g3 g4 g5 g6 hr hr' hln hdst hI hHB hrb hfb y0 y1 y2 z2 z3 htb
   go_wp2_with fail
   refine HF1.out.mono ?_
   rintro e w5 ⟨rfl,hb5⟩
   obtain ⟨u1,u2,u3⟩:=HCE.out w5 hb5
   have HI6:Hid (WkI w w5.drew ⟨k0,a0,b0,c0⟩ (TK l) vT):=hide (HI.out.below hb5.drew)
   obtain ⟨w6,hw6⟩:∃ w6,w6=w5.drew:=⟨_,rfl⟩
   rw [← hw6] at HI6
   have HW6:=hide hw6
   clear hw6 hb5 HF1 z0 z1 y3
   go_wp2_with fail
   go_big_region
   rw [← HW6.out]
   clear u1 u2 u3 HCE
   obtain ⟨z0,z1,_,_⟩:=HI6.out.act.cells
   simp only [] at z0 z1
   go_upto_if 65 with fail
   go_cut [10,14,15,16] from 43 to 114 (fun v10 v14 v15 v16 wc=>v10 = .bool (RD (l+1))∧∃ vT',WkI w wc ⟨k0,a0,b0,c0⟩ (TK (l+1)) vT')
   case first=>
    cases q1 with
    | false=>
     have HIZ:Hid (∃ vT',WkI w w6 ⟨k0,a0,b0,c0⟩ (TK (l+1)) vT'):=hide ⟨vT,by rw [HTK.out];simpa using HI6.out⟩
     go_wp2_with fail
     go_meet
     case rel=>
      obtain ⟨vT',hz⟩:=HIZ.out
      exact ⟨by rw [HRD.out];first | rfl | simp,vT',hz⟩
    | true=>
     go_wp2_with fail
     refine (HF2.out w6 HI6.out.bel).mono ?_
     rintro e w7 ⟨rfl,hb7⟩
     have HI7:=hide (HI6.out.below hb7)
     clear hb7 z0 z1 HI6
     obtain ⟨z0,z1,_,_⟩:=HI7.out.act.cells
     simp only [] at z0 z1
     go_wp2_with fail
     refine (HDI1.out w7 HI7.out.bel).mono ?_
     rintro e w8 ⟨rfl,hb8⟩
     have HI8:=hide (HI7.out.below hb8)
     clear hb8 z0 z1 HI7
     obtain ⟨z0,z1,_,_⟩:=HI8.out.act.cells
     simp only [] at z0 z1
     go_wp2_with fail
     refine (HT0l.out w8 HI8.out.bel).mono ?_
     rintro e w9 ⟨rfl,hb9⟩
     have HI9:=hide (HI8.out.below hb9)
     clear hb9 z0 z1 HI8
     by_cases hcan:(q2 && q3)=true
     ·obtain ⟨rfl,rfl⟩:q2=true∧q3=true:=by simpa using hcan
      have c4:=HI9.out.box.cells.2.2.2.2.1
      have lV:=World.rowIs.lt HI9.out.box
      have sz9:=HI9.out.size
      have c4a:∀ u,(w9.alloc u).cell? ⟨w.heap.size+2,4,none⟩=some vT:=fun u=>(World.cell?_alloc_past _ _ _ lV).trans c4
      have f4a:∀ u,(w9.alloc u).frozen? ⟨w.heap.size+2,4,none⟩=false:=fun u=>(World.frozen?_alloc_past _ _ _ lV).trans (World.rowIs.frozen HI9.out.box 4)
      have neV:some (w.heap.size+2)≠vT.ownBlock:=fun e=>by have:=ownBlock_ge HI9.out.own _ e.symm;omega
      clear hcan
      cases rb
      all_goals
       go_wp2_with (at_builtin;refine wpList_append_lies _ rfl _ _ _ rfl (w.heap.size+3) 3 i0 _ 1 8 Tryz.underlying36 hi0 hz0 hz1 hz2 rfl (by omega) _ (TK l).length (pCells (TK l)) rfl (HI9.out.own.alloc _) ⟨w9.heap.size,0,none⟩ 1 1 [.int .i64 (l:Int)] rfl rfl (World.news_of_block (cs:=#[.int .i64 (l:Int)]) (t:=3) (fr:=(0,0)) (heap_alloc_new w9 _)) (by simp [Value.oneCell']) (by omega) (by unfold maxLen;omega) (by omega) (by simp;omega) (w9.heap.size+1) (by simp) ?_;intro gg cap2 wt hown3 hgrow hat hlt3;have k4:=hgrow.cell (a:=⟨w.heap.size+2,4,none⟩) (c4a _) neV;have e4:=(hgrow.frozen_far ⟨w.heap.size+2,4,none⟩ (by simp;omega) neV).trans (f4a _))
       have HIZ:Hid (∃ vT',WkI w (wt.setCell ⟨w.heap.size+2,4,none⟩ (.slice (some ⟨gg,0,none⟩) ((TK l).length+1) cap2)) ⟨k0,a0,b0,c0⟩ (TK (l+1)) vT'):=hide ⟨_,by rw [HTK.out,if_pos (show (true && (true && true))=true from rfl)];exact HI9.out.grow hgrow hown3⟩
       clear hown3 hgrow hat hlt3 k4 e4
       go_meet
       case rel=>
        obtain ⟨vT',hz⟩:=HIZ.out
        exact ⟨by rw [HRD.out];first | rfl | simp,vT',hz⟩
     ·have HIZ:Hid (∃ vT',WkI w w9 ⟨k0,a0,b0,c0⟩ (TK (l+1)) vT'):=hide ⟨vT,by rw [HTK.out,if_neg (by simpa using hcan)];simpa using HI9.out⟩
      clear HI9 HTK
      cases q2 with
      | false=>
       clear hcan
       cases rb with
       | false=>
        go_wp2_with fail
        go_meet
        case rel=>
         obtain ⟨vT',hz⟩:=HIZ.out
         exact ⟨by rw [HRD.out];first | rfl | simp,vT',hz⟩
       | true=>
        cases q6
        all_goals
         go_wp2_with fail
         go_meet
         case rel=>
          obtain ⟨vT',hz⟩:=HIZ.out
          exact ⟨by rw [HRD.out];first | rfl | simp,vT',hz⟩
      | true=>
       have hq3f:q3=false:=Bool.eq_false_iff.2 (fun h=>hcan (by rw [h];rfl))
       subst hq3f
       clear hcan
       cases rb with
       | false=>
        go_wp2_with fail
        go_meet
        case rel=>
         obtain ⟨vT',hz⟩:=HIZ.out
         exact ⟨by rw [HRD.out];first | rfl | simp,vT',hz⟩
       | true=>
        cases q6
        all_goals
         go_wp2_with fail
         go_meet
         case rel=>
          obtain ⟨vT',hz⟩:=HIZ.out
          exact ⟨by rw [HRD.out];first | rfl | simp,vT',hz⟩
   case rest=>
    obtain ⟨rfl,vT',hz⟩:=hcut
    obtain ⟨z0,z1,_,_⟩:=hz.act.cells
    simp only [] at z0 z1
    have HIZ:=hide hz
    clear hz HF2 HDI1 HT0l HI HI6 HW6 HTK
    cases q4 with
    | false=>
     go_wp2_with fail
     go_roundw
     case rel=>exact ⟨l+1,vT',by omega,by go_num,rfl,by rw [HFR.out];first | rfl | simp,HIZ.out⟩
     case measure=>simp [intOf];omega
    | true=>
     go_wp2_with fail
     refine (HT1l.out _ HIZ.out.bel).mono ?_
     rintro e wy ⟨rfl,hby⟩
     have HIY:=hide (HIZ.out.below hby)
     clear hby HIZ HT1l z0 z1
     cases fb <;> cases q5
     all_goals
      go_wp2
      go_roundw
      case rel=>exact ⟨l+1,vT',by omega,by go_num,by first | rfl | trivial,by rw [HFR.out];first | rfl | simp,HIY.out⟩
      case measure=>simp [intOf];omega
  ·have el:l=(netR ts L).length:=by omega
   subst el
   rw [hrb,hfb] at HQ
   have HZ0:=hide hI.toZ
   obtain ⟨aT,cT,eT,_⟩:=own_shape hI.own
   subst eT
   have nlt:¬ ((netR ts L).length:Int)<((routesR ts L).length:Int):=by rw [HNL.out];omega
   obtain ⟨_,_,p2,p3,_,_⟩:=HZ0.out.box.cells
   have fp:=World.rowIs.frozen HZ0.out.box
   clear hI hHB hrb hfb HI HFROM HDI HT0 HT1 HFULL HTS HRS HFS HCN HST y0 y1 y2
   cases rb with
   | true=>
    simp only [if_true] at HQ
    have hbx2:=HZ0.out.box.set2 1
    have p3':=hbx2.cells.2.2.2.1
    have fp':=World.rowIs.frozen hbx2
    have HZ:=hide (HZ0.out.set 1 (s1:Int))
    obtain ⟨v0,v1,v2,v3,v4,v5⟩:=HZ.out.box.cells
    obtain ⟨r0,r1,r2,r3,r4,r5⟩:=HZ.out.res.cells
    have fr:=World.rowIs.frozen HZ.out.res
    simp only [] at v0 v1
    clear hbx2 HZ0
    go_wp2
    have hf:=HZ.out.res.fill k0 a0 1 (s1:Int) (.slice aT (TK (netR ts L).length).length cT) (.slice none 0 0)
    obtain ⟨g0,g1,g2,g3,g4,g5⟩:=hf.cells
    refine bodyPost_ret (v:=.agg #[.int .i64 k0,.int .i64 a0,.int .i64 1,.int .i64 (s1:Int),.slice aT (TK (netR ts L).length).length cT,(.slice none 0 0)]) (by simp [results,Tryz.results22,go_sem,g0,g1,g2,g3,g4,g5]) rfl ?_
    refine HQ1.out _ _ ?_
    rw [HQ.out]
    obtain ⟨o1,o2,o3⟩:=HZ.out.out (.int .i64 k0) (.int .i64 a0) (.int .i64 1) (.int .i64 (s1:Int)) (.slice aT (TK (netR ts L).length).length cT) (.slice none 0 0)
    exact ⟨_,_,rfl,o1,o2,o3⟩
   | false=>
    simp only [Bool.false_eq_true,if_false] at HQ
    cases fb with
    | false=>
     simp only [Bool.false_eq_true,if_false] at HQ
     obtain ⟨v0,v1,v2,v3,v4,v5⟩:=HZ0.out.box.cells
     obtain ⟨r0,r1,r2,r3,r4,r5⟩:=HZ0.out.res.cells
     have fr:=World.rowIs.frozen HZ0.out.res
     simp only [] at v0 v1
     go_wp2
     have hf:=HZ0.out.res.fill k0 a0 0 0 (.slice aT (TK (netR ts L).length).length cT) (.slice none 0 0)
     obtain ⟨g0,g1,g2,g3,g4,g5⟩:=hf.cells
     refine bodyPost_ret (v:=.agg #[.int .i64 k0,.int .i64 a0,.int .i64 0,.int .i64 0,.slice aT (TK (netR ts L).length).length cT,(.slice none 0 0)]) (by simp [results,Tryz.results22,go_sem,g0,g1,g2,g3,g4,g5]) rfl ?_
     refine HQ1.out _ _ ?_
     rw [HQ.out]
     obtain ⟨o1,o2,o3⟩:=HZ0.out.out (.int .i64 k0) (.int .i64 a0) (.int .i64 0) (.int .i64 0) (.slice aT (TK (netR ts L).length).length cT) (.slice none 0 0)
     exact ⟨_,_,rfl,o1,o2,o3⟩
    | true=>
     simp only [if_true] at HQ
     have hbx2:=HZ0.out.box.set2 2
     have p3':=hbx2.cells.2.2.2.1
     have fp':=World.rowIs.frozen hbx2
     have hz1':=HZ0.out.set 2 (s2:Int)
     obtain ⟨w10,hw10⟩:∃ w10,w10=(wr.setCell ⟨w.heap.size+2,2,none⟩ (.int .i64 2)).setCell ⟨w.heap.size+2,3,none⟩ (.int .i64 (s2:Int)):=⟨_,rfl⟩
     rw [← hw10] at hz1'
     have hWk10:=H.out.below hz1'.bel
     have t0:=hWk10.pst.at'.cells.1
     have t1:=hz1'.act.cells.1
     simp only [] at t1
     have HZ1:=hide hz1'
     have lb10:=World.rowIs.lt hWk10.pst.at'
     have lA10:=World.rowIs.lt hz1'.act
     have HAT:Hid (∀ W,Below w10.heap.size w10 W→Calls Tryz.prog 43 #[.pointer (some ⟨q,0,none⟩),.int .i64 k0] W fun e w'=>∃ v,e = .returned v∧w'.ownsRow W.heap.size 3 1 v (atR ts L k0).length (pCells (atR ts L k0))∧Below W.heap.size W w'∧w'.cell? ⟨hb,0,none⟩=some (.pointer (some ⟨q,0,none⟩))∧w'.cell? ⟨w.heap.size,0,none⟩=some (.int .i64 k0)):=hide (fun W hW=>(rpat_any W q g cap ts L vE' vA vI vQ (hWk10.prog.below hW) HO.out k0).mono (fun e w' ⟨v,h1,h2,h3⟩=>⟨v,h1,h2,h3,((h3.cell (p:=⟨hb,0,none⟩) (Nat.lt_of_lt_of_le lb10 hW.size)).trans (hW.cell (p:=⟨hb,0,none⟩) lb10)).trans t0,((h3.cell (p:=⟨w.heap.size,0,none⟩) (Nat.lt_of_lt_of_le lA10 hW.size)).trans (hW.cell (p:=⟨w.heap.size,0,none⟩) lA10)).trans t1⟩))
     have HW10:=hide hw10
     clear hbx2 HZ0 hz1' hWk10 hw10 lb10 lA10
     go_wp2_with fail
     rw [← HW10.out]
     go_region_held3 (fun w'=>w'.cell? ⟨hb,0,none⟩=some (.pointer (some ⟨q,0,none⟩))∧w'.cell? ⟨w.heap.size,0,none⟩=some (.int .i64 k0)) (go_keep)
      ((go_at_call 43;refine (HAT.out _ (Below.refl _ _).drew).mono ?_;rintro e w11 ⟨vl,rfl,hol,hb11,m0,m1⟩))
     rename_i hHeld
     clear hHeld m0 m1 t0 t1 p2 p3 p3' fp fp' HAT
     obtain ⟨al,cl,rfl,hshl⟩:=own_shape hol
     have hb10:Below w10.heap.size w10 w11:=(Below.refl _ _).drew.trans hb11
     have HZ11:=hide (HZ1.out.below hb10)
     have sz10:=HZ1.out.size
     have sz11:=hb10.size
     have HOL:=hide hol
     have HSL:=hide hshl
     have HVN:Hid (valsR ts L ins k0 s2=(atR ts L k0).map fun j=>sol ts L ins j s2):=hide rfl
     have hal:(atR ts L k0).length≤(eqL L).length:=by unfold atR;exact atG_len _ _ _ _
     have HAL:Hid (∀ j∈atR ts L k0,j<(eqL L).length):=hide (fun j hj=>by
      unfold atR atG at hj
      exact List.mem_range.1 (List.mem_filter.1 hj).1)
     have hem:=HO.out.many
     generalize atR ts L k0=AL at *
     clear hol hshl hb11 hb10 HZ1 HW10
     go_wp2
     go_loopw [19] (fun vi wx=>∃ (i:Nat) (vV:Value),i≤AL.length∧vi = .int .i64 i∧WkZ w wx ⟨k0,a0,b0,c0⟩ 2 (s2:Int) (TK (netR ts L).length) (.slice aT (TK (netR ts L).length).length cT) ((AL.take i).map fun j=>sol ts L ins j s2) vV∧(∀ b,vV.ownBlock=some b→w11.heap.size≤b)∧(∀ j,j<w11.heap.size→j≠w.heap.size+2→wx.heap[j]? = w11.heap[j]?)∧w11.heap.size≤wx.heap.size) (fun vi _=>AL.length - (intOf vi).toNat)
     case atStart=>exact ⟨0,_,Nat.zero_le _,rfl,HZ11.out,fun b e=>by simp [Value.ownBlock] at e,fun _ _ _=>rfl,Nat.le_refl _⟩
     case round=>
      obtain ⟨i,vV,hi,rfl,hZ,hvb,hfr,hsz⟩:=hrel
      have HZ:=hide hZ
      by_cases hil:i<AL.length
      ·obtain ⟨gl,rfl,hgl1,hgl2⟩:=HSL.out (by omega)
       obtain ⟨j,hj⟩:∃ j,j=AL[i]'hil:=⟨_,rfl⟩
       have hjl:j<(eqL L).length:=HAL.out j (by rw [hj];exact List.getElem_mem hil)
       have hgl1':w10.heap.size≤gl:=hgl1
       have hglV:gl≠w.heap.size+2:=by omega
       have hMr:=HM.out.below hZ.bel
       have haM:=HAM.out (by omega)
       subst haM
       have s0:wr.cell? ⟨gl,i,none⟩=some (.int .i64 (j:Int)):=by
        rw [World.cell?_of_block (w:=w11) (a:=⟨gl,i,none⟩) (hfr gl hgl2 hglV),HOL.out.cellAt i (by omega)]
        unfold pCells
        rw [List.getElem?_map,List.getElem?_eq_getElem hil,← hj]
        rfl
       have s1':=hMr.outer j hjl
       have s2':=hMr.cell hjl hn
       have lgM:gM<w.heap.size:=HM.out.lt (by omega)
       have lRj:R j<w.heap.size:=World.rowIs.lt (HM.out.rows j hjl)
       obtain ⟨x,hx⟩:∃ x,x=sol ts L ins j s2:=⟨_,rfl⟩
       rw [← hx] at s2'
       have sc0:wr.cell? ⟨gl,i,none⟩=some (.int .i64 (j:Int))∧wr.cell? ⟨gM,j,none⟩=some (.slice (some ⟨R j,0,none⟩) n n)∧wr.cell? ⟨R j,s2,none⟩=some (.int .i64 x):=⟨s0,s1',s2'⟩
       have hbw:=hZ.bel.size
       have sa:∀ u,(wr.alloc u).cell? ⟨gl,i,none⟩=some (.int .i64 (j:Int))∧(wr.alloc u).cell? ⟨gM,j,none⟩=some (.slice (some ⟨R j,0,none⟩) n n)∧(wr.alloc u).cell? ⟨R j,s2,none⟩=some (.int .i64 x):=fun u=>⟨(World.cell?_alloc_past _ _ _ (by show gl<wr.heap.size;omega)).trans s0,(World.cell?_alloc_past _ _ _ (by show gM<wr.heap.size;omega)).trans s1',(World.cell?_alloc_past _ _ _ (by show R j<wr.heap.size;omega)).trans s2'⟩
       have lV:=World.rowIs.lt hZ.box
       have c5:wr.cell? ⟨w.heap.size+1+1,5,none⟩=some vV:=hZ.box.cells.2.2.2.2.2
       have ca:∀ u,(wr.alloc u).cell? ⟨w.heap.size+1+1,5,none⟩=some vV:=fun u=>(World.cell?_alloc_past _ _ _ lV).trans c5
       have fa:∀ u,(wr.alloc u).frozen? ⟨w.heap.size+1+1,5,none⟩=false:=fun u=>(World.frozen?_alloc_past _ _ _ lV).trans (World.rowIs.frozen hZ.box 5)
       have ne1:some (w.heap.size+1+1)≠vV.ownBlock:=fun e=>by have:=hvb _ e.symm;omega
       have ne2:some gl≠vV.ownBlock:=fun e=>by have:=hvb _ e.symm;omega
       have ne3:some gM≠vV.ownBlock:=fun e=>by have:=hvb _ e.symm;omega
       have ne4:some (R j)≠vV.ownBlock:=fun e=>by have:=hvb _ e.symm;omega
       have m1:w.heap.size+1+1≠gl:=by omega
       have m2:w.heap.size+1+1≠gM:=by omega
       have m3:w.heap.size+1+1≠R j:=by omega
       have howc:=hZ.ownV
       rw [List.length_map,List.length_take,Nat.min_eq_left (by omega)] at howc
       have hXl:((AL.take i).map fun j=>sol ts L ins j s2).length=i:=by rw [List.length_map,List.length_take,Nat.min_eq_left (by omega)]
       have hXs:(AL.take (i+1)).map (fun j=>sol ts L ins j s2)=(AL.take i).map (fun j=>sol ts L ins j s2) ++ [x]:=by rw [List.take_succ_eq_append_getElem hil,List.map_append,hx,← hj];rfl
       have HNEXT:Hid (∀ gg cap2 wt,wt.ownsRow (w.heap.size+3) 3 1 (.slice (some ⟨gg,0,none⟩) (i+1) cap2) (i+1) (iCells ((AL.take i).map fun j=>sol ts L ins j s2) ++ [.int .i64 x])→(wr.alloc (.cells #[.int .i64 x] 3)).drew.grownBy wt vV.ownBlock→(vV.ownBlock=some gg∨gg=wr.heap.size+1)→WkZ w (wt.setCell ⟨w.heap.size+2,5,none⟩ (.slice (some ⟨gg,0,none⟩) (i+1) cap2)) ⟨k0,a0,b0,c0⟩ 2 (s2:Int) (TK (netR ts L).length) (.slice aT (TK (netR ts L).length).length cT) ((AL.take (i+1)).map fun j=>sol ts L ins j s2) (.slice (some ⟨gg,0,none⟩) (i+1) cap2)∧(∀ b,(Value.slice (some ⟨gg,0,none⟩) (i+1) cap2).ownBlock=some b→w11.heap.size≤b)∧(∀ j,j<w11.heap.size→j≠w.heap.size+2→(wt.setCell ⟨w.heap.size+2,5,none⟩ (.slice (some ⟨gg,0,none⟩) (i+1) cap2)).heap[j]? = w11.heap[j]?)∧w11.heap.size≤(wt.setCell ⟨w.heap.size+2,5,none⟩ (.slice (some ⟨gg,0,none⟩) (i+1) cap2)).heap.size):=hide (fun gg cap2 wt ho hgr hat=>by
        have hzt:wr.heap.size+1≤wt.heap.size:=by have:=hgr.size;simpa using this
        have hg:=HZ.out.grow (x:=x) (gg:=gg) (cap:=cap2) hgr (by rw [hXl];exact ho) hat
        rw [hXl,← hXs] at hg
        refine ⟨hg,fun b hb=>?_,fun k hk hkV=>?_,?_⟩
        ·have e':gg=b:=by simpa [Value.ownBlock] using hb
         rcases hat with hat | hat
         ·have:=hvb gg hat;omega
         ·omega
        ·rw [heap_setCell_other wt ⟨w.heap.size+2,5,none⟩ k _ hkV,hgr.block k (by simp;omega) (fun e=>by have:=hvb k e.symm;omega)]
         exact (heap_alloc_old wr _ (by omega)).trans (hfr k hk hkV)
        ·show w11.heap.size≤(wt.setCell _ _).heap.size
         simp only [World.size_setCell]
         omega)
       generalize iCells ((AL.take i).map fun j=>sol ts L ins j s2)=XC at *
       have i1:(0:Int)≤(i:Int):=by omega
       have i2:(i:Int)<(AL.length:Int):=by omega
       have j1:(0:Int)≤(j:Int):=by omega
       have j2:(j:Int)<((eqL L).length:Int):=by omega
       have n1:(0:Int)≤(s2:Int):=by omega
       have n2:(s2:Int)<(n:Int):=by omega
       have hi400:i+1≤2000:=by omega
       clear hZ hvb hfr hMr hj hx hXl hXs s0 s1' s2'
       go_wp2_with fail
       refine wp_region_held_drew (S:=(fun w'=>w'.cell? ⟨gl,i,none⟩=some (.int .i64 (j:Int))∧w'.cell? ⟨gM,j,none⟩=some (.slice (some ⟨R j,0,none⟩) n n)∧w'.cell? ⟨R j,s2,none⟩=some (.int .i64 x))) (by kernel_rfl) ?_ (fun hHeld=>?_)
       ·exact sc0
       refine wpAnyH_take (i:=0) (v:=?_) rfl (by kernel_rfl) (by kernel_rfl) (by kernel_rfl) (fun _ _ _ h=>h) (Or.inl ⟨by rfl,?_⟩) hHeld ?_
       rotate_left
       ·intro w hSw
        (try dsimp only at hSw)
        go_simp
        (try with_reducible rfl)
       simp only [Act.put,List.setIfInBounds_toArray]
       refine wpAnyH_take (i:=2) (v:=?_) rfl (by kernel_rfl) (by kernel_rfl) (by kernel_rfl) (fun _ _ _ h=>h) (Or.inl ⟨by rfl,?_⟩) hHeld ?_
       rotate_left
       ·intro w hSw
        (try dsimp only at hSw)
        go_simp
        (try with_reducible rfl)
       simp only [Act.put]
       refine wpAnyH_take (i:=3) (v:=?_) rfl (by kernel_rfl) (by kernel_rfl) (by kernel_rfl) (fun _ _ _ h=>h) (Or.inl ⟨by rfl,?_⟩) hHeld ?_
       rotate_left
       ·intro w hSw
        (try dsimp only at hSw)
        go_simp
        (try with_reducible rfl)
       simp only [Act.put]
       refine wpAnyH_take (i:=4) (v:=?_) rfl (by kernel_rfl) (by kernel_rfl) (by kernel_rfl) (fun _ _ _ h=>h) (Or.inl ⟨by rfl,?_⟩) hHeld ?_
       rotate_left
       ·intro w hSw
        (try dsimp only at hSw)
        go_simp
        (try with_reducible rfl)
       simp only [Act.put]
       refine wpAnyH_take (i:=5) (v:=?_) rfl (by kernel_rfl) (by kernel_rfl) (by kernel_rfl) (fun _ _ _ h=>h) (Or.inl ⟨by rfl,?_⟩) hHeld ?_
       rotate_left
       ·intro w hSw
        (try dsimp only at hSw)
        go_simp
        (try with_reducible rfl)
       simp only [Act.put]
       refine wpAnyH_take (i:=6) (v:=?_) rfl (by kernel_rfl) (by kernel_rfl) (by kernel_rfl) (fun _ _ _ h=>h) (Or.inl ⟨by rfl,?_⟩) hHeld ?_
       rotate_left
       ·intro w hSw
        (try dsimp only at hSw)
        go_simp
        (try with_reducible rfl)
       simp only [Act.put]
       refine wpAnyH_take (i:=7) (v:=?_) rfl (by kernel_rfl) (by kernel_rfl) (by kernel_rfl) (fun _ _ _ h=>h) (Or.inl ⟨by rfl,?_⟩) hHeld ?_
       rotate_left
       ·intro w hSw
        (try dsimp only at hSw)
        go_simp
        (try with_reducible rfl)
       simp only [Act.put]
       refine wpAnyH_take (i:=8) (v:=?_) rfl (by kernel_rfl) (by kernel_rfl) (by kernel_rfl) (fun _ _ _ h=>h) (Or.inl ⟨by rfl,?_⟩) hHeld ?_
       rotate_left
       ·intro w hSw
        (try dsimp only at hSw)
        go_simp
        (try with_reducible rfl)
       simp only [Act.put]
       refine wpAnyH_take (i:=9) (v:=?_) rfl (by kernel_rfl) (by kernel_rfl) (by kernel_rfl) (fun _ _ _ h=>h) (Or.inl ⟨by rfl,?_⟩) hHeld ?_
       rotate_left
       ·intro w hSw
        (try dsimp only at hSw)
        go_simp
        (try with_reducible rfl)
       simp only [Act.put]
       refine wpAnyH_take (i:=10) (v:=?_) rfl (by kernel_rfl) (by kernel_rfl) (by kernel_rfl) (fun _ _ _ h=>h) (Or.inl ⟨by rfl,?_⟩) hHeld ?_
       rotate_left
       ·intro w hSw
        (try dsimp only at hSw)
        go_simp
        (try with_reducible rfl)
       simp only [Act.put]
       refine wpAnyH_take (i:=11) (v:=?_) rfl (by kernel_rfl) (by kernel_rfl) (by kernel_rfl) (fun _ _ _ h=>h) (Or.inl ⟨by rfl,?_⟩) hHeld ?_
       rotate_left
       ·intro w hSw
        (try dsimp only at hSw)
        go_simp
        (try with_reducible rfl)
       simp only [Act.put]
       refine wpAnyH_ready (rs:=[1,12]) (by kernel_rfl) (by simp) ?_
       refine AllReadyH.cons rfl (fun K hK=>?_) (AllReadyH.cons rfl (fun K hK=>?_) AllReadyH.nil)
       ·go_simp
        refine hK.out _ _ hHeld (fun _=>?_)
        clear hK K
        refine wpAnyH_ready (rs:=[12]) (by kernel_rfl) (by simp) ?_
        refine AllReadyH.cons rfl (fun K hK=>?_) AllReadyH.nil
        go_simp
        refine hK.out _ _ (sa _) (fun _=>?_)
        clear hK K
        refine wpAnyH_ready (rs:=[13]) (by kernel_rfl) (by simp) ?_
        refine AllReadyH.cons rfl (fun K hK=>?_) AllReadyH.nil
        refine step_append_lies _ (by rfl) _ _ _ (by rfl) (w.heap.size+3) 3 i0 _ 1 8 Tryz.underlying36 hi0 hz0 hz1 hz2 rfl (by omega) vV i XC (by rfl) ((howc.alloc _).drew) ⟨wr.heap.size,0,none⟩ 1 1 [.int .i64 x] (by rfl) (by rfl) (World.news_of_block (cs:=#[.int .i64 x]) (t:=3) (fr:=(0,0)) (heap_alloc_new wr _)) (by simp [Value.oneCell']) (by omega) (by unfold maxLen;omega) (by omega) (by simp;omega) (wr.heap.size+1) (by simp) ?_
        intro gg cap2 wt hown3 hgrow hat hlt3
        have k4:=hgrow.cell (a:=⟨w.heap.size+1+1,5,none⟩) (ca _) ne1
        have e4:=(hgrow.frozen_far ⟨w.heap.size+1+1,5,none⟩ (by simp;omega) ne1).trans (fa _)
        have z0:=hgrow.cell (a:=⟨gl,i,none⟩) (sa _).1 ne2
        have z1:=hgrow.cell (a:=⟨gM,j,none⟩) (sa _).2.1 ne3
        have z2:=hgrow.cell (a:=⟨R j,s2,none⟩) (sa _).2.2 ne4
        refine hK.out _ _ ⟨z0,z1,z2⟩ (fun hHeld3=>?_)
        clear hK K
        simp only [Act.put,List.setIfInBounds_toArray]
        refine wpAnyH_take (i:=14) (v:=?_) rfl (by kernel_rfl) (by kernel_rfl) (by kernel_rfl) (fun _ _ _ h=>h) (Or.inl ⟨by rfl,?_⟩) hHeld3 ?_
        rotate_left
        ·intro w hSw
         (try dsimp only at hSw)
         go_simp
         (try with_reducible rfl)
        simp only [Act.put]
        refine wpAnyH_ready (rs:=[15]) (by kernel_rfl) (by simp) ?_
        refine AllReadyH.cons rfl (fun K hK=>?_) AllReadyH.nil
        go_simp
        refine hK.out _ _ ⟨(World.cell?_setCell_other _ _ _ _ (fun e=>m1 (congrArg Addr.block e))).trans z0,(World.cell?_setCell_other _ _ _ _ (fun e=>m2 (congrArg Addr.block e))).trans z1,(World.cell?_setCell_other _ _ _ _ (fun e=>m3 (congrArg Addr.block e))).trans z2⟩ (fun _=>?_)
        clear hK K
        refine wpAnyH_done (by kernel_rfl) ?_ _
        have HNX:=hide (HNEXT.out gg cap2 wt hown3 hgrow hat)
        clear hown3 hgrow hat hlt3 k4 e4 z0 z1 z2
        go_wp2
        go_roundw
        case rel=>exact ⟨i+1,_,by omega,by go_num,HNX.out.1,HNX.out.2.1,HNX.out.2.2.1,HNX.out.2.2.2⟩
        case measure=>simp [intOf];omega
       ·go_simp
        refine hK.out _ _ (sa _) (fun _=>?_)
        clear hK K
        refine wpAnyH_ready (rs:=[1]) (by kernel_rfl) (by simp) ?_
        refine AllReadyH.cons rfl (fun K hK=>?_) AllReadyH.nil
        go_simp
        refine hK.out _ _ (sa _) (fun _=>?_)
        clear hK K
        refine wpAnyH_ready (rs:=[13]) (by kernel_rfl) (by simp) ?_
        refine AllReadyH.cons rfl (fun K hK=>?_) AllReadyH.nil
        refine step_append_lies _ (by rfl) _ _ _ (by rfl) (w.heap.size+3) 3 i0 _ 1 8 Tryz.underlying36 hi0 hz0 hz1 hz2 rfl (by omega) vV i XC (by rfl) ((howc.alloc _).drew) ⟨wr.heap.size,0,none⟩ 1 1 [.int .i64 x] (by rfl) (by rfl) (World.news_of_block (cs:=#[.int .i64 x]) (t:=3) (fr:=(0,0)) (heap_alloc_new wr _)) (by simp [Value.oneCell']) (by omega) (by unfold maxLen;omega) (by omega) (by simp;omega) (wr.heap.size+1) (by simp) ?_
        intro gg cap2 wt hown3 hgrow hat hlt3
        have k4:=hgrow.cell (a:=⟨w.heap.size+1+1,5,none⟩) (ca _) ne1
        have e4:=(hgrow.frozen_far ⟨w.heap.size+1+1,5,none⟩ (by simp;omega) ne1).trans (fa _)
        have z0:=hgrow.cell (a:=⟨gl,i,none⟩) (sa _).1 ne2
        have z1:=hgrow.cell (a:=⟨gM,j,none⟩) (sa _).2.1 ne3
        have z2:=hgrow.cell (a:=⟨R j,s2,none⟩) (sa _).2.2 ne4
        refine hK.out _ _ ⟨z0,z1,z2⟩ (fun hHeld3=>?_)
        clear hK K
        simp only [Act.put,List.setIfInBounds_toArray]
        refine wpAnyH_take (i:=14) (v:=?_) rfl (by kernel_rfl) (by kernel_rfl) (by kernel_rfl) (fun _ _ _ h=>h) (Or.inl ⟨by rfl,?_⟩) hHeld3 ?_
        rotate_left
        ·intro w hSw
         (try dsimp only at hSw)
         go_simp
         (try with_reducible rfl)
        simp only [Act.put]
        refine wpAnyH_ready (rs:=[15]) (by kernel_rfl) (by simp) ?_
        refine AllReadyH.cons rfl (fun K hK=>?_) AllReadyH.nil
        go_simp
        refine hK.out _ _ ⟨(World.cell?_setCell_other _ _ _ _ (fun e=>m1 (congrArg Addr.block e))).trans z0,(World.cell?_setCell_other _ _ _ _ (fun e=>m2 (congrArg Addr.block e))).trans z1,(World.cell?_setCell_other _ _ _ _ (fun e=>m3 (congrArg Addr.block e))).trans z2⟩ (fun _=>?_)
        clear hK K
        refine wpAnyH_done (by kernel_rfl) ?_ _
        have HNX:=hide (HNEXT.out gg cap2 wt hown3 hgrow hat)
        clear hown3 hgrow hat hlt3 k4 e4 z0 z1 z2
        go_wp2
        go_roundw
        case rel=>exact ⟨i+1,_,by omega,by go_num,HNX.out.1,HNX.out.2.1,HNX.out.2.2.1,HNX.out.2.2.2⟩
        case measure=>simp [intOf];omega
      ·have ei:i=AL.length:=by omega
       subst ei
       obtain ⟨aV,cV,eV,_⟩:=own_shape hZ.ownV
       subst eV
       have hXl:((AL.take AL.length).map fun j=>sol ts L ins j s2).length=AL.length:=by rw [List.length_map,List.length_take,Nat.min_self]
       have hXe:(AL.take AL.length).map (fun j=>sol ts L ins j s2)=valsR ts L ins k0 s2:=by rw [List.take_length,HVN.out]
       obtain ⟨v0,v1,v2,v3,v4,v5⟩:=HZ.out.box.cells
       obtain ⟨r0,r1,r2,r3,r4,r5⟩:=HZ.out.res.cells
       have fr:=World.rowIs.frozen HZ.out.res
       simp only [] at v0 v1
       rw [hXl] at v5
       clear hZ hvb hfr
       go_wp2
       have hf:=HZ.out.res.fill k0 a0 2 (s2:Int) (.slice aT (TK (netR ts L).length).length cT) (.slice aV AL.length cV)
       obtain ⟨g0,g1,g2,g3,g4,g5⟩:=hf.cells
       refine bodyPost_ret (v:=.agg #[.int .i64 k0,.int .i64 a0,.int .i64 2,.int .i64 (s2:Int),.slice aT (TK (netR ts L).length).length cT,(.slice aV AL.length cV)]) (by simp [results,Tryz.results22,go_sem,g0,g1,g2,g3,g4,g5]) rfl ?_
       refine HQ1.out _ _ ?_
       rw [HQ.out]
       obtain ⟨o1,o2,o3⟩:=HZ.out.out (.int .i64 k0) (.int .i64 a0) (.int .i64 2) (.int .i64 (s2:Int)) (.slice aT (TK (netR ts L).length).length cT) (.slice aV AL.length cV)
       rw [hXl,hXe] at o2
       have hVl:(valsR ts L ins k0 s2).length=AL.length:=by rw [← hXe,hXl]
       exact ⟨_,_,rfl,o1,by show World.ownsRow _ _ _ _ _ (valsR ts L ins k0 s2).length (iCells (valsR ts L ins k0 s2));rw [hVl];exact o2,o3⟩
end Go.Proofs.YtmndgoapkmhglabGreat
