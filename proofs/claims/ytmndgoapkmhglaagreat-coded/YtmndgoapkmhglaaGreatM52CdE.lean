import Derived.Test.YtmndgoapkmhglaaGreatM34LawPk
import Derived.Test.YtmndgoapkmhglaaGreatM46HeldT
namespace Go.Proofs.YtmndgoapkmhglaaGreat
open Go.RowKit
attribute [local go_sem ↓] Go.wp_at_zero Go.wp_at_succ
theorem routes_len (ts:List Tk) (L:List Dl):(routesR ts L).length≤4 * (eqL L).length:=by
 have h1:∀ (b:Nat) (x:Dl) (q:Nat),(routeTo ts L b x q).length≤q:=by
  intro b x q
  induction q with
  | zero=>simp [routeTo]
  | succ q ih=>
   simp only [routeTo,List.length_append,routeAt]
   split <;> simp <;> omega
 have h2:∀ (l:List Dl) (b:Nat),(routesFrom ts L b l).length≤4 * l.length:=by
  intro l
  induction l with
  | nil=>intro b;simp [routesFrom]
  | cons x r ih=>
   intro b
   simp only [routesFrom,List.length_append,List.length_cons]
   have:=h1 b x 4
   have:=ih (b+1)
   omega
 exact h2 _ _
set_option maxHeartbeats 8000000 in
set_option maxRecDepth 100000 in
theorem rmeant_any (s:ByteArray) (w:World) (pl:Int) (vO vC vN vU:Value) (c:CdF) (h:CodeAt w vO vC vN vU c) (vX:Value) (ins:List (List Int)) (hX:LsAt w vX ins) (n:Nat) (hn:n≤200) (junk:Int) (h0:(textF s).1=0) (hst:∀ L,RGood s L→Right (toks s) L→StepOk (toks s) L pl c s.size) :
  Calls Tryz.prog 16 #[.string s,.int .i64 pl,.agg #[vO,vC,vN,vU],vX,.int .i64 (n:Int),.int .i64 junk] w fun e w'=>e = .returned (.bool true)∧Below w.heap.size w w':=by
 obtain ⟨i0,hi0,hz0,hz1,hz2⟩:=info_parts Tryz.infoInt
 have HH:=hide h
 have HX:=hide hX
 have HST:=hide hst
 obtain ⟨Ao,Co,rfl,hmo,hco⟩:=h.ops
 obtain ⟨Ac,Cc,rfl,hmc,hcc⟩:=h.cells
 obtain ⟨An,Cn,rfl,hmn,hcn⟩:=h.next
 obtain ⟨Au,Cu,rfl,hmu,hcu⟩:=h.out
 have q1:(((textF s).1:Int) != 0)=false:=by rw [h0];rfl
 have H0:=hide h0
 clear hco hcc hcn hcu h hX h0 hst
 go_enter Tryz.func16,Tryz.ntmps16
 go_wp2_with fail
 refine (rread_any s _).mono ?_
 rintro e w1 ⟨p,rfl,hb1,hok⟩
 obtain ⟨q,g,cap,L,vE,vA,vI,vQ,rfl,hP,ho,hG⟩:=hok H0.out
 have hR:=right_of ho.F hG.sp hG.many hG.names hG.cyc
 have hS:=HST.out L hG hR
 have HB1:=hide hb1
 have HP:=hide hP
 have HO:=hide ho
 have HRT:=hide hR
 have HS:=hide hS
 clear hb1 hok hP ho hG hR hS HST
 go_wp2_with fail
 refine (rpat_any w1 q g cap (toks s) L vE vA vI vQ HP.out HO.out pl).mono ?_
 rintro e w2 ⟨vl,rfl,hat,hb2⟩
 have hbx1:w1.heap[w.heap.size]? = some (.cells #[.slice Ao c.ops.length Co,.slice Ac c.cells.length Cc,.slice An c.next.length Cn,.slice Au c.out.length Cu] 43):=(HB1.out.block w.heap.size (by simp)).trans (heap_alloc_new w _)
 have hbw1:w.heap.size<w1.heap.size:=by have:=HB1.out.size;simp at this;omega
 have hbw:Below w.heap.size w w1:=((Below.refl w.heap.size w).alloc (Nat.le_refl _) _).trans (HB1.out.mono (by simp))
 obtain ⟨al,cl,rfl,hsl⟩:=own_shape hat
 have hbx2:=(hb2.block _ hbw1).trans hbx1
 have HC1:=hide (HH.out.below hbw)
 have HX1:=hide (HX.out.below hbw)
 have HAT:=hide hat
 have HSL:=hide hsl
 have HBW:=hide hbw
 have HB2:=hide hb2
 clear hat hsl hbw hb2 hbx1
 have HBX:=hide hbx2
 have y0:w2.cell? ⟨w.heap.size,0,none⟩=some (.slice Ao c.ops.length Co):=by rw [cell_of_row w2 _ 0 _ _ _ hbx2];rfl
 have y1:w2.cell? ⟨w.heap.size,1,none⟩=some (.slice Ac c.cells.length Cc):=by rw [cell_of_row w2 _ 1 _ _ _ hbx2];rfl
 have y2:w2.cell? ⟨w.heap.size,2,none⟩=some (.slice An c.next.length Cn):=by rw [cell_of_row w2 _ 2 _ _ _ hbx2];rfl
 have y3:w2.cell? ⟨w.heap.size,3,none⟩=some (.slice Au c.out.length Cu):=by rw [cell_of_row w2 _ 3 _ _ _ hbx2];rfl
 clear hbx2
 go_wp2_with fail
 refine (rformed_any w2 _ _ _ _ c (HC1.out.below HB2.out)).mono ?_
 rintro e w3 ⟨rfl,hb3⟩
 have HDL:Hid (∀ W:World,Below w3.heap.size w3 W→_):=hide (fun W hW=>rdelays_any W q g cap (toks s) L vE vA vI vQ (((HP.out.below HB2.out).below hb3).below hW) HO.out pl)
 have hbw3:w.heap.size<w3.heap.size:=Nat.lt_of_lt_of_le (Nat.lt_of_lt_of_le hbw1 HB2.out.size) hb3.size
 have hbw2:w.heap.size<w2.heap.size:=Nat.lt_of_lt_of_le hbw1 HB2.out.size
 have hbx3:=(hb3.block _ hbw2).trans HBX.out
 have z0:w3.cell? ⟨w.heap.size,0,none⟩=some (.slice Ao c.ops.length Co):=by rw [cell_of_row w3 _ 0 _ _ _ hbx3];rfl
 have z1:w3.cell? ⟨w.heap.size,1,none⟩=some (.slice Ac c.cells.length Cc):=by rw [cell_of_row w3 _ 1 _ _ _ hbx3];rfl
 have z3:w3.cell? ⟨w.heap.size,3,none⟩=some (.slice Au c.out.length Cu):=by rw [cell_of_row w3 _ 3 _ _ _ hbx3];rfl
 have HBX3:=hide hbx3
 have HB3:=hide hb3
 obtain ⟨f1,f2,f3,f4,_⟩:=HS.out
 rw [f1]
 have k1:¬ (c.ops.length:Int) > (s.size:Int):=by omega
 have k2:((c.out.length:Int) != ((atR (toks s) L pl).length:Int))=false:=by rw [f3];simp
 have k3:¬ (c.cells.length:Int) > ((delaysR (toks s) L pl:Nat):Int):=by omega
 have K3:=hide k3
 clear hbx3 hb3 f1 f2 f3 f4 k3 y0 y1 y2 y3 HBX
 have g1:decide ((s.size:Int)<(c.ops.length:Int))=false:=decide_eq_false k1
 have g2:decide ((c.ops.length:Int) > (s.size:Int))=false:=decide_eq_false k1
 have g3:((c.out.length:Int) == ((atR (toks s) L pl).length:Int))=true:=by have:=k2;rwa [bne_eq_false_iff_eq,← beq_iff_eq] at this
 have g4:(!((c.out.length:Int) == ((atR (toks s) L pl).length:Int)))=false:=by rw [g3];rfl
 have g5:decide (s.size<c.ops.length)=false:=decide_eq_false (by omega)
 have g6:(c.out.length == (atR (toks s) L pl).length)=true:=by have:=g3;rw [beq_iff_eq] at this ⊢;omega
 have g7:(c.out.length != (atR (toks s) L pl).length)=false:=by rw [bne,g6];rfl
 go_wp2_with fail
 go_region_held3 (fun w'=>w'.cell? ⟨w.heap.size,0,none⟩=some (.slice Ao c.ops.length Co)∧w'.cell? ⟨w.heap.size,1,none⟩=some (.slice Ac c.cells.length Cc)∧w'.cell? ⟨w.heap.size,3,none⟩=some (.slice Au c.out.length Cu)) (go_keep)
  ((go_at_call 30;refine (HDL.out _ (Below.refl _ _).drew).mono ?_;rintro e w4 ⟨rfl,hb4⟩;have t0:=(hb4.cell (p:=⟨w.heap.size,0,none⟩) hbw3).trans z0;have t1:=(hb4.cell (p:=⟨w.heap.size,1,none⟩) hbw3).trans z1;have t3:=(hb4.cell (p:=⟨w.heap.size,3,none⟩) hbw3).trans z3))
 rename_i hHeld
 clear hHeld t0 t1 t3
 have HB4:Hid (Below w3.heap.size w3 w4):=hide ((Below.refl _ _).drew.trans hb4)
 have k3:=K3.out
 have g8:decide (((delaysR (toks s) L pl:Nat):Int)<(c.cells.length:Int))=false:=decide_eq_false (by omega)
 have g9:decide (delaysR (toks s) L pl<c.cells.length)=false:=decide_eq_false (by omega)
 have HB14:Hid (Below w1.heap.size w1 w4):=hide ((HB2.out.trans (HB3.out.mono HB2.out.size)).trans (HB4.out.mono (Nat.le_trans HB2.out.size HB3.out.size)))
 have HST:=hide (rstreams_any w4 q g cap (toks s) L vE vA vI vQ vX ins (HP.out.below HB14.out) (HX1.out.below HB14.out) HRT.out HO.out n hn)
 clear z0 z1 z3 hb4 HDL
 go_wp2_with fail
 refine HST.out.mono ?_
 rintro e w5 ⟨vR,rfl,hout,hb5⟩
 have hbx5:=(hb5.block _ (Nat.lt_of_lt_of_le hbw3 HB4.out.size)).trans ((HB4.out.block _ hbw3).trans HBX3.out)
 have z1:w5.cell? ⟨w.heap.size,1,none⟩=some (.slice Ac c.cells.length Cc):=by rw [cell_of_row w5 _ 1 _ _ _ hbx5];rfl
 have HBX5:=hide hbx5
 have HOUT:=hide hout
 have HB5:=hide hb5
 clear hbx5 hout hb5 HST HBX3
 obtain ⟨aR,gR,cR,R,rfl,hadr,hmat,_,_⟩:=HOUT.out.mat
 have hb15:Below w1.heap.size w1 w5:=HB14.out.trans (HB5.out.mono HB14.out.size)
 have hbw5:Below w.heap.size w w5:=HBW.out.trans (hb15.mono HBW.out.size)
 have hb25:Below w2.heap.size w2 w5:=((HB3.out.trans (HB4.out.mono HB3.out.size))).trans (HB5.out.mono (Nat.le_trans HB3.out.size HB4.out.size))
 have HPL:Hid (Play w w5 q g cap (toks s) L vE vA vI vQ (.slice Ao c.ops.length Co) (.slice Ac c.cells.length Cc) (.slice An c.next.length Cn) (.slice Au c.out.length Cu) c vX ins (.slice al (atR (toks s) L pl).length cl) pl n aR gR cR R):=hide ⟨HP.out.below hb15,HH.out.below hbw5,HX.out.below hbw5,own_wk (own_same HAT.out (fun b e=>hb25.block b (HAT.out.lt b e).2)) (by have:=HBW.out.size;omega),hmat,hadr,HBX5.out,hbw5⟩
 obtain ⟨vI',cI',hvI,hsI⟩:=own_shape HP.out.ins
 have HVI:=hide hvI
 have HFE:=hide HS.out
 have hfew:=HRT.out.few
 clear hadr hmat hb15 hbw5 hb25 HB5 HB14 HB4 HB3 HB2 HBX5 HOUT HC1 HX1 hvI hsI k1 k2 k3 g1 g2 g3 g4 g5 g6 g7 g8 g9
 go_wp2
 go_loopw [19,20] (fun vc vk wr=>∃ k:Nat,k≤n∧vk = .int .i64 k∧RowAt wr vc (cellsS c (nowL L ins) (fun k=>givenR (toks s) L (sol (toks s) L ins) pl k junk) k)∧Play w wr q g cap (toks s) L vE vA vI vQ (.slice Ao c.ops.length Co) (.slice Ac c.cells.length Cc) (.slice An c.next.length Cn) (.slice Au c.out.length Cu) c vX ins (.slice al (atR (toks s) L pl).length cl) pl n aR gR cR R) (fun _ vk _=>n - (intOf vk).toNat)
 case atStart=>exact ⟨0,Nat.zero_le _,rfl,HPL.out.code.cells,HPL.out⟩
 case round=>
  clear z1 HPL
  obtain ⟨k,hk,rfl,hcel,hpl⟩:=hrel
  by_cases hkn:k<n
  ·have HPL:=hide hpl
   obtain ⟨aZ,cZ,rfl,hZm,hZc⟩:=hcel
   have HCEL:Hid (RowAt wr (.slice aZ (cellsS c (nowL L ins) (fun k=>givenR (toks s) L (sol (toks s) L ins) pl k junk) k).length cZ) (cellsS c (nowL L ins) (fun k=>givenR (toks s) L (sol (toks s) L ins) pl k junk) k)):=hide ⟨aZ,cZ,rfl,hZm,hZc⟩
   obtain ⟨wk,hwk⟩:∃ wk,wk=wr:=⟨_,rfl⟩
   have HWK:=hide hwk
   have i2:(k:Int)<(n:Int):=by omega
   have HKN:=hide hkn
   clear hpl hZc hwk hkn
   go_wp2
   go_loopw [21,22] (fun vN vi wx=>∃ i:Nat,i≤(inL L).length∧vi = .int .i64 i∧wx.ownsRow wk.heap.size 3 1 vN i (iCells ((List.range i).map fun i=>elemF ins i k))∧Below wk.heap.size wk wx) (fun _ vi _=>(inL L).length - (intOf vi).toNat)
   case atStart=>exact ⟨0,Nat.zero_le _,rfl,World.ownsRow_nil _ _ _ _,by rw [HWK.out];first | exact Below.refl _ _ | exact below_drewN (Below.refl _ _) _⟩
   case round=>
    obtain ⟨i,hi,rfl,hown,hbx⟩:=hrel
    have HPX:=hide ((HWK.out ▸ HPL.out:Play w wk q g cap (toks s) L vE vA vI vQ (.slice Ao c.ops.length Co) (.slice Ac c.cells.length Cc) (.slice An c.next.length Cn) (.slice Au c.out.length Cu) c vX ins (.slice al (atR (toks s) L pl).length cl) pl n aR gR cR R).below hbx)
    have c3:wr.cell? ⟨q,3,none⟩=some (.slice vI' (inL L).length cI'):=by rw [← HVI.out];exact HPX.out.prog.c3
    have HBX:=hide hbx
    have hsx:=hbx.size
    by_cases hil:i<(inL L).length
    ·have j1:(i:Int)<((inL L).length:Int):=by omega
     have HEL:=hide (relement_any wr vX ins HPX.out.ls i k)
     have HSN:Hid (iCells ((List.range (i+1)).map fun i=>elemF ins i k)=iCells ((List.range i).map fun i=>elemF ins i k) ++ [.int .i64 (elemF ins i k)]):=hide (by rw [List.range_succ,List.map_append,List.map_singleton,iCells_snoc])
     have HOWN:=hide hown
     generalize elemF ins i k=ev at HEL HSN
     clear hown hbx hil
     go_wp2_with fail
     refine HEL.out.mono ?_
     rintro e w6 ⟨rfl,hb6⟩
     have hown6:=bel_own HOWN.out hb6
     have HB6:=hide (HBX.out.trans (hb6.mono HBX.out.size))
     have hs6:=HB6.out.size
     clear hb6 HEL c3
     go_wp2_with (at_builtin;refine wpList_append_lies _ rfl _ _ _ rfl wk.heap.size 3 i0 _ 1 8 Tryz.underlying34 hi0 hz0 hz1 hz2 rfl (by omega) _ i (iCells ((List.range i).map fun i=>elemF ins i k)) rfl (hown6.alloc _) ⟨w6.heap.size,0,none⟩ 1 1 [.int .i64 ev] rfl rfl (World.news_of_block (cs:=#[.int .i64 ev]) (t:=3) (fr:=(0,0)) (heap_alloc_new w6 _)) (by simp [Value.oneCell']) (by omega) (by unfold maxLen;omega) (by omega) (by simp;omega) (w6.heap.size+1) (by simp) ?_;intro gg cap2 w7 hown7 hgrow hat hlt7)
     go_roundw
     case rel=>exact ⟨i+1,by omega,by go_num,by rw [HSN.out];exact hown7,(HB6.out.alloc HB6.out.size _).grown hgrow (by simp;omega) (fun j hj=>ownBlock_ge hown6 j hj)⟩
     case measure=>simp [intOf];omega
    ·have ei:i=(inL L).length:=by omega
     subst ei
     have z9:¬ ((inL L).length:Int)<((inL L).length:Int):=by omega
     obtain ⟨aN,cN,rfl,_⟩:=own_shape hown
     have HNOW:Hid (RowAt wr (.slice aN (inL L).length cN) (nowL L ins k)):=hide (own_rowN hown (by omega) (by simp [nowL]))
     have HCR:=hide ((HWK.out ▸ HCEL.out:RowAt wk (.slice aZ (cellsS c (nowL L ins) (fun k=>givenR (toks s) L (sol (toks s) L ins) pl k junk) k).length cZ) (cellsS c (nowL L ins) (fun k=>givenR (toks s) L (sol (toks s) L ins) pl k junk) k)).below hbx)
     have HGV:=hide (rgiven_any wr q g cap (toks s) L vE vA vI vQ HPX.out.prog HO.out aR gR cR n R (sol (toks s) L ins) HPX.out.mat HPX.out.adr pl k junk HKN.out (by omega))
     clear hown hbx HPL HCEL
     go_wp2_with fail
     refine HGV.out.mono ?_
     rintro e w6 ⟨vG,rfl,hownG,hb6⟩
     have hgl:(givenR (toks s) L (sol (toks s) L ins) pl k junk).length≤1000000:=by
      have h1:=givL_len (sol (toks s) L ins) pl k junk (routesR (toks s) L)
      have h2:=routes_len (toks s) L
      unfold givenR
      omega
     have HLK:=hide (own_rowN hownG hgl rfl)
     have HP6:=hide (HPX.out.below hb6)
     have HN6:=hide (HNOW.out.below hb6)
     have HC6:=hide (HCR.out.below hb6)
     have hbxx:=HP6.out.box
     have y0:w6.cell? ⟨w.heap.size,0,none⟩=some (.slice Ao c.ops.length Co):=by rw [cell_of_row w6 _ 0 _ _ _ hbxx];rfl
     have y1:w6.cell? ⟨w.heap.size,1,none⟩=some (.slice Ac c.cells.length Cc):=by rw [cell_of_row w6 _ 1 _ _ _ hbxx];rfl
     have y2:w6.cell? ⟨w.heap.size,2,none⟩=some (.slice An c.next.length Cn):=by rw [cell_of_row w6 _ 2 _ _ _ hbxx];rfl
     have y3:w6.cell? ⟨w.heap.size,3,none⟩=some (.slice Au c.out.length Cu):=by rw [cell_of_row w6 _ 3 _ _ _ hbxx];rfl
     have HEX:=hide (rExec_any w6 _ _ _ _ c HP6.out.code (k:Int) _ _ _ _ _ _ HC6.out HN6.out HLK.out)
     obtain ⟨x1,x2,x3⟩:=exec_ok HFE.out.formed (n:=(k:Int)) (by omega) (cellsS_len HFE.out.formed (nowL L ins) (fun k=>givenR (toks s) L (sol (toks s) L ins) pl k junk) k) (nowL L ins k) (givenR (toks s) L (sol (toks s) L ins) pl k junk)
     have HPLAY:=hide (fun i j=>HFE.out.play ins junk k i j)
     have HNX:Hid ((execF c (k:Int) (cellsS c (nowL L ins) (fun k=>givenR (toks s) L (sol (toks s) L ins) pl k junk) k) (nowL L ins k) (givenR (toks s) L (sol (toks s) L ins) pl k junk)).2.2=cellsS c (nowL L ins) (fun k=>givenR (toks s) L (sol (toks s) L ins) pl k junk) (k+1)):=hide rfl
     obtain ⟨ex,hex⟩:∃ ex,ex=execF c (k:Int) (cellsS c (nowL L ins) (fun k=>givenR (toks s) L (sol (toks s) L ins) pl k junk) k) (nowL L ins k) (givenR (toks s) L (sol (toks s) L ins) pl k junk):=⟨_,rfl⟩
     rw [← hex] at HEX x1 x2 x3 HPLAY HNX
     rw [x1] at HEX
     have hol:ex.2.1.length=(atR (toks s) L pl).length:=by rw [x3];exact HFE.out.out
     have HOL:=hide hol
     obtain ⟨aG,cG,rfl,_⟩:=own_shape hownG
     clear hownG hb6 HGV hbxx hex x1 x2 x3 hol hgl HPX HNOW HCR
     go_wp2_with fail
     refine HEX.out.mono ?_
     rintro e w7 ⟨vo,vn',rfl,hown1,hown2,hl1,hl2,hb7⟩
     obtain ⟨ao,co,rfl,hso⟩:=own_shape hown1
     obtain ⟨an',cn',rfl,_⟩:=own_shape hown2
     have HP7:=hide (HP6.out.below hb7)
     have HO1:=hide hown1
     have HSO:=hide hso
     have HN2:=hide (own_rowN hown2 (by omega) rfl)
     clear hown1 hown2 hso hb7 HEX HP6 HN6 HC6 HLK y0 y1 y2 y3
     go_wp2
     go_loopw [28] (fun vi wx=>∃ i:Nat,i≤(atR (toks s) L pl).length∧vi = .int .i64 i∧Below w7.heap.size w7 wx) (fun vi _=>(atR (toks s) L pl).length - (intOf vi).toNat)
     case atStart=>exact ⟨0,Nat.zero_le _,rfl,by first | exact Below.refl _ _ | exact below_drewN (Below.refl _ _) _⟩
     case round=>
      obtain ⟨i,hi,rfl,hbx⟩:=hrel
      have HPX:=hide (HP7.out.below hbx)
      have HBX:=hide hbx
      by_cases hil:i<(atR (toks s) L pl).length
      ·obtain ⟨j,hj⟩:∃ j,j=(atR (toks s) L pl)[i]'hil:=⟨_,rfl⟩
       have hji:(atR (toks s) L pl)[i]? = some j:=by rw [List.getElem?_eq_getElem hil,hj]
       have hval:=HPLAY.out i j hji
       have hol:=HOL.out
       obtain ⟨go,rfl,_,hgo⟩:=HSO.out (by omega)
       have d0:wr.cell? ⟨go,i,none⟩=some (.int .i64 (sol (toks s) L ins j k)):=by
        rw [hbx.cell (p:=⟨go,i,none⟩) hgo,HO1.out.cellAt i (by omega),iCells_get,hval];rfl
       obtain ⟨gl,cl',el,_,hgl⟩:=HPX.out.at'.form (by omega)
       have eal:al=some ⟨gl,0,none⟩:=by injection el
       subst eal
       have d1:wr.cell? ⟨gl,i,none⟩=some (.int .i64 (j:Int)):=by
        rw [HPX.out.at'.cellAt i (by omega)]
        unfold pCells
        rw [List.getElem?_map,hji];rfl
       have hjl:j<(eqL L).length:=by
        have hm:j∈atR (toks s) L pl:=by rw [hj];exact List.getElem_mem hil
        unfold atR atG at hm
        have:=(List.mem_filter.1 hm).1
        simpa using this
       have eaR:=HPX.out.adr (by omega)
       subst eaR
       have d2:=HPX.out.mat.outer j hjl
       have d3:=HPX.out.mat.cell hjl HKN.out
       have j1:(0:Int)≤(i:Int):=by omega
       have j2:(i:Int)<((atR (toks s) L pl).length:Int):=by omega
       have j3:(i:Int)<(ex.2.1.length:Int):=by omega
       have j4:(0:Int)≤(j:Int):=by omega
       have j5:(j:Int)<((eqL L).length:Int):=by omega
       have j6:(0:Int)≤(k:Int):=by omega
       generalize sol (toks s) L ins j k=sv at d0 d3
       have q9:(sv != sv)=false:=by simp
       clear hj hji hval hol hbx hil hgl el hjl
       go_wp2_with fail
       go_quiet (fail)
       go_wp2
       go_roundw
       case rel=>exact ⟨i+1,by omega,by go_num,by first | exact HBX.out | exact below_drewN HBX.out _⟩
       case measure=>simp [intOf];omega
      ·have ei:i=(atR (toks s) L pl).length:=by omega
       subst ei
       have z7:¬ ((atR (toks s) L pl).length:Int)<((atR (toks s) L pl).length:Int):=by omega
       clear hbx hil
       go_wp2
       go_roundw
       case rel=>exact ⟨k+1,by have:=HKN.out;omega,by go_num,by rw [← HNX.out];exact HN2.out.below HBX.out,HPX.out⟩
       case measure=>simp [intOf];have:=HKN.out;omega
  ·have ek:k=n:=by omega
   subst ek
   have z9:¬ (k:Int)<(k:Int):=by omega
   have HPL:=hide hpl
   clear hpl hcel
   go_wp2
   go_ret
   exact ⟨rfl,HPL.out.bel⟩
end Go.Proofs.YtmndgoapkmhglaaGreat
