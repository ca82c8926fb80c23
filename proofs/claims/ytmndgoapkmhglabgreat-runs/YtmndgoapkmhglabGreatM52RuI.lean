import Derived.Test.YtmndgoapkmhglabGreatM33OpenA
import Derived.Test.YtmndgoapkmhglabGreatM42LawHo
import Derived.Test.YtmndgoapkmhglabGreatM43RuP
import Derived.Test.YtmndgoapkmhglabGreatM44RuG
import Derived.Test.YtmndgoapkmhglabGreatM49AlA
import Derived.Test.YtmndgoapkmhglabGreatM51PRun
namespace Go.Proofs.YtmndgoapkmhglabGreat
open Go.RowKit
def rvE (TV VV:Nat→Value) (k:Nat):Value:=if k % 2=0 then TV (k / 2) else VV (k / 2)
theorem rvE_even (TV VV:Nat→Value) (i:Nat):rvE TV VV (2 * i)=TV i:=by unfold rvE;rw [if_pos (by omega),show 2 * i / 2=i by omega]
theorem rvE_odd (TV VV:Nat→Value) (i:Nat):rvE TV VV (2 * i+1)=VV i:=by unfold rvE;rw [if_neg (by omega),show (2 * i+1) / 2=i by omega]
structure RBoth (w2 w3 w4:World) (v u:Value) (E:List EvF) (TV VV TV' VV':Nat→Value):Prop where
 few:E.length≤400
 vs:∃ a c,v = .slice a E.length c
 us:∃ a c,u = .slice a E.length c
 mine:0<E.length→EvsOwn w2.heap.size w3 v E TV VV
 want:0<E.length→EvG w3.heap.size w4 u E TV' VV'
theorem rboth_of {s:ByteArray}{ins:List (List Int)}{sc:List OpF}{w2 w3 w4:World}{v u:Value} (hq:RunQ s ins sc w2.heap.size w3 v) (hr:RunR s ins sc w3.heap.size w4 u):∃ E TV VV TV' VV',RBoth w2 w3 w4 v u E TV VV TV' VV'∧(∀ e∈E,e.took.length≤6100∧e.vals.length≤12):=by
 unfold RunQ at hq
 unfold RunR at hr
 by_cases h0:runE s sc=0
 ·rw [if_pos h0] at hq hr
  obtain ⟨L,TV',VV',hG,hR,hE'⟩:=hr
  obtain ⟨TV,VV,hE⟩:=hq L hG hR
  obtain ⟨a,c,e1,_⟩:=own_shape hE.row
  obtain ⟨a',c',e2,_⟩:=own_shape hE'.row
  have hpk:playK (seatsF s) sc=true:=by
   unfold runE at h0
   by_cases ht:(textF s).1=0
   ·rw [if_neg (by simpa using ht)] at h0
    cases hp:playK (seatsF s) sc with
    | true=>rfl
    | false=>rw [hp] at h0;cases h0
   ·rw [if_pos ht] at h0;exact absurd h0 ht
  have hl:sc.length≤400:=by
   unfold playK at hpk
   rw [Bool.and_eq_true] at hpk
   exact of_decide_eq_true hpk.1
  refine ⟨_,TV,VV,TV',VV',⟨by rw [evsR_len];exact hl,⟨a,c,e1⟩,⟨a',c',e2⟩,fun _=>hE,fun _=>hE'⟩,fun e he=>?_⟩
  unfold evsR at he
  obtain ⟨x,hx,rfl⟩:=List.mem_map.1 he
  have hpi:runG (netR (toks s) L) (valsR (toks s) L ins) [] sc=pastI (netR (toks s) L) (valsR (toks s) L ins) sc sc.length:=by unfold pastI;rw [List.take_length]
  rw [hpi] at hx
  have hN:(netR (toks s) L).length≤6100:=by
   have h1:=routes_few (toks s) L
   rw [net_len]
   have:=hR.few.1
   omega
  refine ⟨Nat.le_trans (past_tk _ _ sc _ (Nat.le_refl _) x hx) hN,?_⟩
  exact Nat.le_trans (past_vl (toks s) L ins sc _ (Nat.le_refl _) x hx) hR.few.1
 ·rw [if_neg h0] at hq hr
  obtain ⟨a,c,rfl⟩:=hq
  subst hr
  exact ⟨[],fun _=>.slice none 0 0,fun _=>.slice none 0 0,fun _=>.slice none 0 0,fun _=>.slice none 0 0,⟨by simp,⟨a,c,rfl⟩,⟨none,0,rfl⟩,fun h=>by simp at h,fun h=>by simp at h⟩,fun e he=>by simp at he⟩
theorem Owning.next1 {w3 w4 w5 w6:World}{m k B:Nat}{RV:Nat→Value}{os:List OwnV}{vO vO':Value}{o:OwnV}{ob:Obj} (h:Owning w3 w4 m k RV os vO) (hkm:k<m) (hB:∀ i,i<m→∀ b,(RV i).ownBlock=some b→B≤b∧b<w3.heap.size)
  (hap:∀ i j,i<m→j<m→i≠j→∀ b,(RV i).ownBlock=some b→(RV j).ownBlock≠some b) (ho:OwnAt w5 (fun b=>(RV k).ownBlock=some b∨w4.heap.size≤b) o) (hg:w4.grownBy w5 (RV k).ownBlock)
  (hg6:(w5.alloc ob).grownBy w6 vO.ownBlock) (hat:vO'.ownBlock=vO.ownBlock∨∃ b,vO'.ownBlock=some b∧w5.heap.size≤b) (hown:w6.ownsRow w3.heap.size 41 5 vO' (k+1) (ownCells (os ++ [o]))) :
  Owning w3 w6 m (k+1) RV (os ++ [o]) vO':=by
 have s5:=hg.size
 have s6:=hg6.size
 simp at s6
 have hs:=h.size
 have blkO:∀ b,vO.ownBlock=some b→w3.heap.size≤b∧b<w4.heap.size:=fun b hb=>h.own.lt b hb
 have step5:∀ b,b<w5.heap.size→vO.ownBlock≠some b→w6.heap[b]? = w5.heap[b]?:=fun b hb h1=>by
  rw [hg6.block b (by simp;omega) (Ne.symm h1),Below.heap_alloc _ _ _ (by omega)]
 have step:∀ b,b<w4.heap.size→vO.ownBlock≠some b→(RV k).ownBlock≠some b→w6.heap[b]? = w4.heap[b]?:=fun b hb h1 h2=>by
  rw [step5 b (by omega) h1,hg.block b hb (Ne.symm h2)]
 refine ⟨hg6.os.trans (hg.os.trans h.o1),hg6.tape.trans (hg.tape.trans h.o2),hg6.output.trans (hg.output.trans h.o3),by omega,fun b hb hl=>?_,by rw [List.length_append,h.len];rfl,hown,fun x hx=>?_⟩
 ·rw [step b (by omega) (fun e=>by have:=(blkO b e).1;omega) (hl k (by omega))]
  exact h.fr b hb (fun l hl'=>hl l (by omega))
 ·rcases List.mem_append.1 hx with hx | hx
  ·refine (h.all x hx).keep (by omega) (fun b hb hK=>⟨fun e=>?_,fun l hl hlm=>hK.2 l (by omega) hlm⟩) (fun b hb hK c hc=>?_)
   ·rcases hat with hat | ⟨b',hat,hb'⟩
    ·rw [hat] at e;exact hK.1 e
    ·rw [hat] at e;cases e;omega
   ·rw [World.cell?_of_block (w:=w4) (a:=⟨b,c,none⟩) (step b hb hK.1 (hK.2 k (Nat.le_refl _) hkm))];exact hc
  ·rw [List.mem_singleton] at hx
   subst hx
   have hne:∀ b,b<w5.heap.size→((RV k).ownBlock=some b∨w4.heap.size≤b)→vO.ownBlock≠some b:=fun b hb hK e=>by
    have h1:=blkO b e
    rcases hK with hK | hK
    ·have:=(hB k hkm b hK).2;omega
    ·omega
   refine ho.keep (by omega) (fun b hb hK=>⟨fun e=>?_,fun l hl hlm e=>?_⟩) (fun b hb hK c hc=>?_)
   ·rcases hat with hat | ⟨b',hat,hb'⟩
    ·rw [hat] at e;exact hne b hb hK e
    ·rw [hat] at e;cases e;omega
   ·rcases hK with hK | hK
    ·exact hap k l hkm hlm (by omega) b hK e
    ·have:=(hB l hlm b e).2;omega
   ·rw [World.cell?_of_block (w:=w5) (a:=⟨b,c,none⟩) (step5 b hb (hne b hb hK))];exact hc
theorem RBoth.where {w2 w3 w4:World}{v u:Value}{E:List EvF}{TV VV TV' VV':Nat→Value} (h:RBoth w2 w3 w4 v u E TV VV TV' VV') (h34:w3.heap.size≤w4.heap.size):(∀ k,k<2 * E.length→∀ b,(rvE TV VV k).ownBlock=some b→w2.heap.size≤b∧b<w4.heap.size)∧(∀ k,k<2 * E.length→∀ b,(rvE TV VV k).ownBlock=some b→b<w3.heap.size)∧(∀ i j,i<2 * E.length→j<2 * E.length→i≠j→∀ b,(rvE TV VV i).ownBlock=some b→(rvE TV VV j).ownBlock≠some b):=by
 have hm:∀ k,k<2 * E.length→∀ b,(rvE TV VV k).ownBlock=some b→w2.heap.size≤b∧b<w3.heap.size:=fun k hk b hb=>by
  have hE:=h.mine (by omega)
  unfold rvE at hb
  split at hb
  ·exact (hE.took (k / 2) (by omega)).lt b hb
  ·exact (hE.vals (k / 2) (by omega)).lt b hb
 refine ⟨fun k hk b hb=>⟨(hm k hk b hb).1,Nat.lt_of_lt_of_le (hm k hk b hb).2 h34⟩,fun k hk b hb=>(hm k hk b hb).2,fun i j hi hj hij b hb=>?_⟩
 have hE:=h.mine (by omega)
 unfold rvE at hb ⊢
 by_cases e1:i % 2=0
 ·rw [if_pos e1] at hb
  by_cases e2:j % 2=0
  ·rw [if_pos e2];exact hE.apT _ _ (by omega) (by omega) (by omega) b hb
  ·rw [if_neg e2];exact hE.apTV _ _ (by omega) (by omega) b hb
 ·rw [if_neg e1] at hb
  by_cases e2:j % 2=0
  ·rw [if_pos e2];exact fun e=>hE.apTV _ _ (by omega) (by omega) b e hb
  ·rw [if_neg e2];exact hE.apV _ _ (by omega) (by omega) (by omega) b hb
end Go.Proofs.YtmndgoapkmhglabGreat
namespace Go.Proofs.YtmndgoapkmhglabGreat
open Go.RowKit
attribute [local go_sem ↓] Go.wp_at_zero Go.wp_at_succ
theorem pc_int {B:Nat}{w:World}{v:Value}{ws:List Nat} (h:w.ownsRow B 3 1 v ws.length (pCells ws)):w.ownsRow B 3 1 v (ws.map fun (p:Nat)=>(p:Int)).length ((ws.map fun (p:Nat)=>(p:Int)).map fun x=>.int .i64 x):=by
 have e:((ws.map fun (p:Nat)=>(p:Int)).map fun x=>Value.int .i64 x)=pCells ws:=by unfold pCells;rw [List.map_map];rfl
 rw [e,List.length_map]
 exact h
theorem own_rowI {B:Nat}{w:World}{v:Value}{xs:List Int} (h:w.ownsRow B 3 1 v xs.length (xs.map fun x=>.int .i64 x)) (hn:xs.length≤1048576):RowAt w v xs:=by
 rcases h.2 with ⟨rfl,h0⟩ | ⟨g,cap,cur,rfl,hb,hg,h1,h2,h3,h4⟩
 ·exact ⟨none,0,by rw [h0],by omega,fun hp=>by omega⟩
 ·refine ⟨_,_,rfl,by omega,fun hp=>⟨g,0,rfl,(Array.getElem?_eq_some_iff.1 hg).1,fun c hc=>?_⟩⟩
  rw [Nat.zero_add,h.cellAt c (by omega),List.getElem?_map,List.getElem?_eq_getElem hc]
  rfl
set_option maxHeartbeats 16000000 in
set_option maxRecDepth 100000 in
theorem runs_any (s:ByteArray) (hs:s.size≤maxLen) (w:World) (A:Option Addr) (C:Nat) (ins:List (List Int)) (AS:Nat→Option Addr) (CS:Nat→Nat) (hA:ArgL w A C ins AS CS) (A2:Option Addr) (C2:Nat) (sc:List OpF) (hS:OpsAt w (.slice A2 sc.length C2) sc) :
  Calls Tryz.prog 3 #[.string s,.slice A ins.length C,.slice A2 sc.length C2] w fun e w'=>e = .returned (.bool true)∧Below w.heap.size w w':=by
 obtain ⟨i0,hi0,hz0,hz1,hz2⟩:=info_parts Tryz.infoOwn
 have hol:sc.length≤4398046511104:=by obtain ⟨_,_,_,hl,_⟩:=hS;exact hl
 have HA:=hide hA
 have HS:=hide hS
 have HN0:=hide (ops_none hS)
 have HP:=hide (fun W vX hX vS hS=>prun_any s hs W vX ins hX vS sc hS)
 have HQ:=hide (fun W vX hX vS hS=>rrun_any s W vX ins hX vS sc hS)
 have HRB:Hid (∀ (w2 w3 w4:World) v u,RunQ s ins sc w2.heap.size w3 v→RunR s ins sc w3.heap.size w4 u→∃ E TV VV TV' VV',RBoth w2 w3 w4 v u E TV VV TV' VV'∧(∀ e∈E,e.took.length≤6100∧e.vals.length≤12)):=hide (fun _ _ _ _ _ h1 h2=>rboth_of h1 h2)
 generalize RunQ s ins sc=Q1 at *
 generalize RunR s ins sc=Q2 at *
 generalize runE s sc=er at *
 clear hA hs hS
 go_enter Tryz.func3,Tryz.ntmps3
 go_wp2_with fail
 refine (llists_any w A C ins AS CS HA.out).mono ?_
 rintro e w1 ⟨vo,vi,rfl,hv,hb1⟩
 obtain ⟨ao,lo,co,ai,li,ci,rfl,rfl⟩:=hv.shape
 have HV:=hide hv
 have HB1:=hide hb1
 clear hv hb1
 obtain ⟨bx,hbx⟩:∃ bx,bx=w1.alloc (.cells #[.slice ao lo co,.slice ai li ci] 25):=⟨_,rfl⟩
 have HBX:Hid (Below w1.heap.size w1 bx):=hide (by rw [hbx];exact (Below.refl _ _).alloc (Nat.le_refl _) _)
 have HSZ:Hid (w1.heap.size<bx.heap.size):=hide (by rw [hbx];simp)
 have HBC:Hid (bx.heap[w1.heap.size]? = some (.cells #[.slice ao lo co,.slice ai li ci] 25)):=hide (by rw [hbx];exact heap_alloc_new w1 _)
 have HBw1:Hid (Below w.heap.size w bx):=hide (HB1.out.trans (HBX.out.mono HB1.out.size))
 have HWB:=hide hbx
 clear hbx
 go_wp2_with fail
 rw [← HWB.out]
 refine (lacts_any bx A2 C2 sc (HS.out.below HBw1.out) HN0.out).mono ?_
 rintro e w2 ⟨vM,rfl,hvM,hb2⟩
 have HVM:=hide hvM
 have HB2:=hide hb2
 have HBw2:Hid (Below w.heap.size w w2):=hide (HBw1.out.trans (hb2.mono HBw1.out.size))
 have hbn2:w2.heap[w1.heap.size]? = some (.cells #[.slice ao lo co,.slice ai li ci] 25):=(hb2.block _ HSZ.out).trans HBC.out
 have c0:=cell_of_row w2 w1.heap.size 0 _ _ _ hbn2
 have HBN2:=hide hbn2
 have hsM:∃ aM cM,vM = .slice aM sc.length cM:=by
  obtain ⟨aM,cM,e,_,_⟩:=hvM.at HN0.out hol
  exact ⟨aM,cM,e⟩
 obtain ⟨aM,cM,rfl⟩:=hsM
 clear hvM hb2 hbn2 HWB
 go_wp2_with fail
 refine (HP.out w2 (.slice ao lo co) ((HV.out.ls (HA.out.below HB1.out)).below (HBX.out.trans (HB2.out.mono HBX.out.size))) _ (HVM.out.at HN0.out hol)).mono ?_
 rintro e w3 ⟨v,rfl,hq,hb3⟩
 have HB3:=hide hb3
 have HBw3:Hid (Below w.heap.size w w3):=hide (HBw2.out.trans (hb3.mono HBw2.out.size))
 have HQQ:=hide hq
 clear hb3 hq HP c0
 go_wp2_with fail
 refine (HQ.out w3 (.slice A ins.length C) (HA.out.below HBw3.out).ls _ (HS.out.below HBw3.out)).mono ?_
 rintro e w4 ⟨u,rfl,hr,hb4⟩
 obtain ⟨E,TV,VV,TV',VV',hboth,hlen⟩:=HRB.out w2 w3 w4 v u HQQ.out hr
 have HB4:=hide hb4
 have HBO:=hide hboth
 have HLEN:=hide hlen
 obtain ⟨av,cv,rfl⟩:=hboth.vs
 obtain ⟨au,cu,rfl⟩:=hboth.us
 have h400:=hboth.few
 obtain ⟨hWh1,hWh2,hWh3⟩:=hboth.where hb4.size
 have HWH1:=hide hWh1
 have HWH2:=hide hWh2
 have HWH3:=hide hWh3
 have s23:=HB3.out.size
 have s34:=hb4.size
 clear hr hb4 hboth hlen HQ HQQ HRB hWh1 hWh2 hWh3
 go_wp2_with fail
 refine (num_of _ _).mono ?_
 rintro e5 w5 ⟨rfl,rfl⟩
 have ee:((er:Int) != (er:Int))=false:=by simp
 have el:((E.length:Int) != (E.length:Int))=false:=by simp
 have eln:(E.length != E.length)=false:=by simp
 obtain ⟨RV,hRV⟩:∃ RV,RV=rvE TV VV:=⟨_,rfl⟩
 rw [← hRV] at HWH1 HWH2 HWH3
 have HRV:=hide hRV
 clear hRV
 go_wp2
 go_loopw [9,14] (fun vO vi wr=>∃ (i:Nat) (os:List OwnV),i≤E.length∧vi = .int .i64 i∧Owning w4 wr (2 * E.length) (2 * i) RV os vO) (fun _ vi _=>E.length - (intOf vi).toNat)
 case atStart=>
  exact ⟨0,[],Nat.zero_le _,rfl,⟨rfl,rfl,rfl,Nat.le_refl _,fun _ _ _=>rfl,rfl,World.ownsRow_nil _ _ _ _,fun o ho=>by simp at ho⟩⟩
 case round=>
  obtain ⟨i,os,hi,rfl,hO⟩:=hrel
  obtain ⟨aO,cO,eO,hshO⟩:=own_shape hO.own
  subst eO
  have HO:=hide hO
  have hsz:=hO.size
  by_cases hil:i<E.length
  ·have hE:=HBO.out.mine (by omega)
   have hG:=HBO.out.want (by omega)
   have hEg:EvG w2.heap.size w3 (.slice av E.length cv) E TV VV:=⟨hE.row,hE.took,hE.vals,hE.neT,hE.neV⟩
   obtain ⟨gv,cv',hv',hgv,x0,x1,x2,x3,x4,x5⟩:=hEg.cells (Below.refl _ _) hil
   injection hv' with e1 e2 e3
   subst e1 e3
   obtain ⟨gu,cu',hu',hgu,y0,y1,y2,y3,y4,y5⟩:=hG.cells (Below.refl _ _) hil
   injection hu' with e1 e2 e3
   subst e1 e3
   have hgu3:w3.heap.size≤gu:=ownBlock_ge hG.row gu rfl
   have hRVg:∀ k,k<2 * E.length→(RV k).ownBlock≠some gv:=fun k hk e=>by
    rw [HRV.out] at e
    unfold rvE at e
    split at e
    ·exact hE.neT _ (by omega) gv e rfl
    ·exact hE.neV _ (by omega) gv e rfl
   have hRV3:∀ k,k<2 * E.length→∀ b,w3.heap.size≤b→(RV k).ownBlock≠some b:=fun k hk b hb e=>by have:=HWH2.out k hk b e;omega
   obtain ⟨hl6,hl12⟩:=HLEN.out E[i] (List.getElem_mem hil)
   have hev:RV (2 * i)=TV i:=by rw [HRV.out];exact rvE_even TV VV i
   have hod:RV (2 * i+1)=VV i:=by rw [HRV.out];exact rvE_odd TV VV i
   have hblk:∀ (W:World) (k:Nat) os vO,Owning w4 W (2 * E.length) k RV os vO→k≤2 * E.length→∀ b,b<w3.heap.size→(∀ l,l<k→(RV l).ownBlock≠some b)→W.heap[b]? = w3.heap[b]?:=fun W k os vO h hk b hb hl=>(h.fr b (by omega) hl).trans (HB4.out.block b hb)
   have hblk4:∀ (W:World) (k:Nat) os vO,Owning w4 W (2 * E.length) k RV os vO→k≤2 * E.length→∀ b,w3.heap.size≤b→b<w4.heap.size→W.heap[b]? = w4.heap[b]?:=fun W k os vO h hk b hb hb'=>h.fr b hb' (fun l hl=>hRV3 l (by omega) b hb)
   obtain ⟨xs,hxs⟩:∃ xs,xs=E[i].took.map fun (p:Nat)=>(p:Int):=⟨_,rfl⟩
   obtain ⟨zs,hzs⟩:∃ zs,zs=E[i].vals:=⟨_,rfl⟩
   have hxl:xs.length≤6100:=by rw [hxs,List.length_map];exact hl6
   have hzl:zs.length≤12:=by rw [hzs];exact hl12
   have HF1:Hid (∀ (W:World) os vO,Owning w4 W (2 * E.length) (2 * i) RV os vO→W.ownsRow w2.heap.size 3 1 (TV i) xs.length (xs.map fun x=>.int .i64 x)∧RowAt W (TV i) xs∧RowAt W (TV' i) xs):=hide (fun W os vO h=>by
    have h1:=own_same (hE.took i hil) (fun b hb=>hblk W _ os vO h (by omega) b ((hE.took i hil).lt b hb).2 (fun l hl e=>HWH3.out l (2 * i) (by omega) (by omega) (by omega) b e (by rw [hev];exact hb)))
    have h2:=own_same (hG.took i hil) (fun b hb=>hblk4 W _ os vO h (by omega) b ((hG.took i hil).lt b hb).1 ((hG.took i hil).lt b hb).2)
    have h1':=pc_int h1
    have h2':=pc_int h2
    rw [← hxs] at h1' h2'
    exact ⟨h1',own_rowI h1' (by omega),own_rowI h2' (by omega)⟩)
   have HF2:Hid (∀ (W:World) os vO,Owning w4 W (2 * E.length) (2 * i+1) RV os vO→W.ownsRow w2.heap.size 3 1 (VV i) zs.length (zs.map fun x=>.int .i64 x)∧RowAt W (VV i) zs∧RowAt W (VV' i) zs):=hide (fun W os vO h=>by
    have h1:=own_same (hE.vals i hil) (fun b hb=>hblk W _ os vO h (by omega) b ((hE.vals i hil).lt b hb).2 (fun l hl e=>HWH3.out l (2 * i+1) (by omega) (by omega) (by omega) b e (by rw [hod];exact hb)))
    have h2:=own_same (hG.vals i hil) (fun b hb=>hblk4 W _ os vO h (by omega) b ((hG.vals i hil).lt b hb).1 ((hG.vals i hil).lt b hb).2)
    rw [← hzs] at h1 h2
    exact ⟨h1,own_rowI h1 (by omega),own_rowI h2 (by omega)⟩)
   have hbgv:wr.heap[gv]? = w3.heap[gv]?:=hblk wr _ os _ hO (by omega) gv hgv (fun l hl=>hRVg l (by omega))
   have hbgu:wr.heap[gu]? = w4.heap[gu]?:=hblk4 wr _ os _ hO (by omega) gu hgu3 hgu
   rw [← World.cell?_of_block (w:=w3) (w':=wr) (a:=⟨gv,i * 6,none⟩) hbgv] at x0
   rw [← World.cell?_of_block (w:=w3) (w':=wr) (a:=⟨gv,i * 6+1,none⟩) hbgv] at x1
   rw [← World.cell?_of_block (w:=w3) (w':=wr) (a:=⟨gv,i * 6+2,none⟩) hbgv] at x2
   rw [← World.cell?_of_block (w:=w3) (w':=wr) (a:=⟨gv,i * 6+3,none⟩) hbgv] at x3
   rw [← World.cell?_of_block (w:=w3) (w':=wr) (a:=⟨gv,i * 6+4,none⟩) hbgv] at x4
   rw [← World.cell?_of_block (w:=w3) (w':=wr) (a:=⟨gv,i * 6+5,none⟩) hbgv] at x5
   rw [← World.cell?_of_block (w:=w4) (w':=wr) (a:=⟨gu,i * 6,none⟩) hbgu] at y0
   rw [← World.cell?_of_block (w:=w4) (w':=wr) (a:=⟨gu,i * 6+1,none⟩) hbgu] at y1
   rw [← World.cell?_of_block (w:=w4) (w':=wr) (a:=⟨gu,i * 6+2,none⟩) hbgu] at y2
   rw [← World.cell?_of_block (w:=w4) (w':=wr) (a:=⟨gu,i * 6+3,none⟩) hbgu] at y3
   rw [← World.cell?_of_block (w:=w4) (w':=wr) (a:=⟨gu,i * 6+4,none⟩) hbgu] at y4
   rw [← World.cell?_of_block (w:=w4) (w':=wr) (a:=⟨gu,i * 6+5,none⟩) hbgu] at y5
   obtain ⟨aT,cT,eT,_⟩:=own_shape (hE.took i hil)
   obtain ⟨aV,cV,eV,_⟩:=own_shape (hE.vals i hil)
   obtain ⟨aT',cT',eT',_⟩:=own_shape (hG.took i hil)
   obtain ⟨aV',cV',eV',_⟩:=own_shape (hG.vals i hil)
   have hTb:∀ b,(TV i).ownBlock=some b→b<w3.heap.size:=fun b hb=>((hE.took i hil).lt b hb).2
   have hVb:∀ b,(VV i).ownBlock=some b→b<w3.heap.size:=fun b hb=>((hE.vals i hil).lt b hb).2
   have HNX1:Hid (∀ (wc wd w6:World) (vO':Value) (o:OwnV) (ob:Obj),Owning w4 wc (2 * E.length) (2 * i) RV os (.slice aO (2 * i) cO)→OwnAt wd (fun b=>(TV i).ownBlock=some b∨wc.heap.size≤b) o→wc.grownBy wd (TV i).ownBlock→(wd.alloc ob).grownBy w6 (Value.slice aO (2 * i) cO).ownBlock→(vO'.ownBlock=(Value.slice aO (2 * i) cO).ownBlock∨∃ b,vO'.ownBlock=some b∧wd.heap.size≤b)→w6.ownsRow w4.heap.size 41 5 vO' (2 * i+1) (ownCells (os ++ [o]))→Owning w4 w6 (2 * E.length) (2 * i+1) RV (os ++ [o]) vO'):=hide (fun wc wd w6 vO' o ob hOc ho hg hg6 hat hown=>hOc.next1 (by omega) HWH1.out HWH3.out (by rw [hev];exact ho) (by rw [hev];exact hg) hg6 hat hown)
   have HNX2:Hid (∀ (wc wd w6:World) (os1:List OwnV) (vO1 vO':Value) (o:OwnV) (ob:Obj),Owning w4 wc (2 * E.length) (2 * i+1) RV os1 vO1→OwnAt wd (fun b=>(VV i).ownBlock=some b∨wc.heap.size≤b) o→wc.grownBy wd (VV i).ownBlock→(wd.alloc ob).grownBy w6 vO1.ownBlock→(vO'.ownBlock=vO1.ownBlock∨∃ b,vO'.ownBlock=some b∧wd.heap.size≤b)→w6.ownsRow w4.heap.size 41 5 vO' (2 * i+1+1) (ownCells (os1 ++ [o]))→Owning w4 w6 (2 * E.length) (2 * i+1+1) RV (os1 ++ [o]) vO'):=hide (fun wc wd w6 os1 vO1 vO' o ob hOc ho hg hg6 hat hown=>hOc.next1 (by omega) HWH1.out HWH3.out (by rw [hod];exact ho) (by rw [hod];exact hg) hg6 hat hown)
   rw [eT] at x4 HF1 hTb HNX1
   rw [eV] at x5 HF2 hVb HNX2
   rw [eT'] at y4 HF1
   rw [eV'] at y5 HF2
   generalize E[i].took.length=lT at *
   generalize E[i].vals.length=lV at *
   generalize E[i].k=ek at *
   generalize E[i].a=ea at *
   generalize E[i].did=ed at *
   generalize E[i].n=en at *
   obtain ⟨wa,hwa⟩:∃ wa,wa=wr.alloc (.cells #[.int .i64 ek,.int .i64 ea,.int .i64 ed,.int .i64 en,.slice aT lT cT,.slice aV lV cV] 38):=⟨_,rfl⟩
   obtain ⟨wb,hwb⟩:∃ wb,wb=wa.alloc (.cells #[.int .i64 ek,.int .i64 ea,.int .i64 ed,.int .i64 en,.slice aT' lT cT',.slice aV' lV cV'] 38):=⟨_,rfl⟩
   have hsa:wa.heap.size=wr.heap.size+1:=by rw [hwa];simp
   have hba:Below wr.heap.size wr wa:=by rw [hwa];exact (Below.refl _ _).alloc (Nat.le_refl _) _
   have hbb:Below wa.heap.size wa wb:=by rw [hwb];exact (Below.refl _ _).alloc (Nat.le_refl _) _
   have hbrb:Below wr.heap.size wr wb:=hba.trans (hbb.mono hba.size)
   have hsb:wb.heap.size=wr.heap.size+2:=by rw [hwb];simp [hsa]
   have hBA:EvBox wb wr.heap.size ek ea ed en (.slice aT lT cT) (.slice aV lV cV):=by
    rw [hwb]
    refine World.rowIs.alloc ?_ _
    rw [hwa]
    exact EvBox.boxed wr _ _ _ _ _ _
   have hBB:EvBox wb (wr.heap.size+1) ek ea ed en (.slice aT' lT cT') (.slice aV' lV cV'):=by rw [hwb,← hsa];exact EvBox.boxed wa _ _ _ _ _ _
   have lgu:gu<wr.heap.size:=by omega
   have y0a:wa.cell? ⟨gu,i * 6,none⟩=some (.int .i64 ek):=(hba.cell (p:=⟨gu,i * 6,none⟩) lgu).trans y0
   have y1a:wa.cell? ⟨gu,i * 6+1,none⟩=some (.int .i64 ea):=(hba.cell (p:=⟨gu,i * 6+1,none⟩) lgu).trans y1
   have y2a:wa.cell? ⟨gu,i * 6+2,none⟩=some (.int .i64 ed):=(hba.cell (p:=⟨gu,i * 6+2,none⟩) lgu).trans y2
   have y3a:wa.cell? ⟨gu,i * 6+3,none⟩=some (.int .i64 en):=(hba.cell (p:=⟨gu,i * 6+3,none⟩) lgu).trans y3
   have y4a:wa.cell? ⟨gu,i * 6+4,none⟩=some (.slice aT' lT cT'):=(hba.cell (p:=⟨gu,i * 6+4,none⟩) lgu).trans y4
   have y5a:wa.cell? ⟨gu,i * 6+5,none⟩=some (.slice aV' lV cV'):=(hba.cell (p:=⟨gu,i * 6+5,none⟩) lgu).trans y5
   obtain ⟨p0,p1,p2,p3,p4,p5⟩:=hBA.cells
   obtain ⟨r0,r1,r2,r3,r4,r5⟩:=hBB.cells
   have HOb:=hide (hO.below hbrb)
   have HBA:=hide hBA
   have HBB:=hide hBB
   have HSB:=hide hsb
   have HSM1:=hide (fun (W:World) vO (h:Owning w4 W (2 * E.length) (2 * i) RV os vO)=>lsame_any W _ _ xs xs (HF1.out W os vO h).2.1 (HF1.out W os vO h).2.2)
   have HOW1:Hid (∀ (W:World) (vO:Value),Owning w4 W (2 * E.length) (2 * i) RV os vO→Calls Tryz.prog 10 #[.slice aT lT cT,.int .i64 (-77 - 2 * (i:Int))] W fun e w'=>∃ o:OwnV,e = .returned o.val∧OwnAt w' (fun b=>(Value.slice aT lT cT).ownBlock=some b∨W.heap.size≤b) o∧W.grownBy w' (Value.slice aT lT cT).ownBlock):=hide (fun W vO h=>(lown_any W w2.heap.size _ xs (-77 - 2 * (i:Int)) (HF1.out W os vO h).1 (by omega)).mono (fun e w' ⟨o,h1,_,_,_,h5,h6⟩=>⟨o,h1,h5,h6⟩))
   have HSM2:=hide (fun (W:World) os' vO (h:Owning w4 W (2 * E.length) (2 * i+1) RV os' vO)=>lsame_any W _ _ zs zs (HF2.out W os' vO h).2.1 (HF2.out W os' vO h).2.2)
   have HOW2:Hid (∀ (W:World) (os':List OwnV) (vO:Value),Owning w4 W (2 * E.length) (2 * i+1) RV os' vO→Calls Tryz.prog 10 #[.slice aV lV cV,.int .i64 (-77 - 2 * (i:Int) - 1)] W fun e w'=>∃ o:OwnV,e = .returned o.val∧OwnAt w' (fun b=>(Value.slice aV lV cV).ownBlock=some b∨W.heap.size≤b) o∧W.grownBy w' (Value.slice aV lV cV).ownBlock):=hide (fun W os' vO h=>(lown_any W w2.heap.size _ zs (-77 - 2 * (i:Int) - 1) (HF2.out W os' vO h).1 (by omega)).mono (fun e w' ⟨o,h1,_,_,_,h5,h6⟩=>⟨o,h1,h5,h6⟩))
   rw [show (xs == xs)=true by simp] at HSM1
   rw [show (zs == zs)=true by simp] at HSM2
   have j3:(0:Int)≤(i:Int):=by omega
   have j4:(i:Int)<(E.length:Int):=by omega
   have m1:IntKind.i64.wrap (2 * (i:Int))=2 * (i:Int):=by rw [IntKind.wrap_i64];omega
   have m2:IntKind.i64.wrap (-77 - 2 * (i:Int)) = -77 - 2 * (i:Int):=by rw [IntKind.wrap_i64];omega
   have m3:IntKind.i64.wrap (-77 - 2 * (i:Int) - 1) = -77 - 2 * (i:Int) - 1:=by rw [IntKind.wrap_i64];omega
   have n0:(ek != ek)=false:=by simp
   have n1:(ea != ea)=false:=by simp
   have n2:(ed != ed)=false:=by simp
   have n3:(en != en)=false:=by simp
   have HWA:=hide hwa
   have HWB2:=hide hwb
   have hbO:∀ b,(Value.slice aO (2 * i) cO).ownBlock=some b→w4.heap.size≤b∧b<wr.heap.size:=fun b hb=>hO.own.lt b hb
   rw [hwb,hwa] at p0 p1 p2 p3 p4 p5 r0 r1 r2 r3 r4 r5
   rw [hwa] at y0a y1a y2a y3a y4a y5a
   have HBOb:=hide hbO
   clear hE hG hEg hO hshO hblk hblk4 hRVg hRV3 hbgv hbgu hwa hwb hsa hba hbb hbrb hsb hBA hBB y0 y1 y2 y3 y4 y5 eT eV eT' eV' hev hod hxs hzs hbO HF1 HF2 hl6 hl12
   go_wp2_with fail
   rw [← HWA.out,← HWB2.out]
   clear x0 x1 x2 x3 x4 x5 y0a y1a y2a y3a y4a y5a p0 p1 p2 p3 p4 p5 r0 r1 r2 r3 r4 r5
   refine (HSM1.out wb _ HOb.out).mono ?_
   rintro e wc ⟨rfl,hbc⟩
   have hsb:=HSB.out
   have hsc:=hbc.size
   have hBAc:EvBox wc wr.heap.size ek ea ed en (.slice aT lT cT) (.slice aV lV cV):=World.rowIs.of_block HBA.out (hbc.block _ (World.rowIs.lt HBA.out))
   have hBBc:EvBox wc (wr.heap.size+1) ek ea ed en (.slice aT' lT cT') (.slice aV' lV cV'):=World.rowIs.of_block HBB.out (hbc.block _ (World.rowIs.lt HBB.out))
   obtain ⟨_,_,_,_,p4,_⟩:=hBAc.cells
   have HOc:=hide (HOb.out.below hbc)
   have HBAc:=hide hBAc
   have HBBc:=hide hBBc
   clear hbc hBAc hBBc HSM1 HOb HBA HBB HWA HWB2 HSB
   go_wp2_with fail
   refine (HOW1.out wc _ HOc.out).mono ?_
   rintro e wd ⟨o,rfl,hoat,hgd⟩
   have hsd:=hgd.size
   have hownO:=own_of HOc.out.own (w':=wd) (fun b hb=>hgd.block b (HOc.out.own.lt b hb).2 (fun e=>by have h1:=(HOc.out.own.lt b hb).1;have h2:=hTb b e.symm;omega))
   have neA:some wr.heap.size≠(Value.slice aT lT cT).ownBlock:=fun e=>by have:=hTb _ e.symm;omega
   have neB:some (wr.heap.size+1)≠(Value.slice aT lT cT).ownBlock:=fun e=>by have:=hTb _ e.symm;omega
   have hBAd:EvBox wd wr.heap.size ek ea ed en (.slice aT lT cT) (.slice aV lV cV):=World.rowIs.of_block HBAc.out (hgd.block _ (World.rowIs.lt HBAc.out) neA)
   have hBBd:EvBox wd (wr.heap.size+1) ek ea ed en (.slice aT' lT cT') (.slice aV' lV cV'):=World.rowIs.of_block HBBc.out (hgd.block _ (World.rowIs.lt HBBc.out) neB)
   have neOA:some wr.heap.size≠(Value.slice aO (2 * i) cO).ownBlock:=fun e=>by have:=HBOb.out _ e.symm;omega
   have neOB:some (wr.heap.size+1)≠(Value.slice aO (2 * i) cO).ownBlock:=fun e=>by have:=HBOb.out _ e.symm;omega
   have HBAd:=hide hBAd
   have HBBd:=hide hBBd
   have qa:∀ u,(wd.alloc u).cell? ⟨wr.heap.size,5,none⟩=some (.slice aV lV cV):=fun u=>(EvBox.cells (World.rowIs.alloc hBAd u)).2.2.2.2.2
   have qb:∀ u,(wd.alloc u).cell? ⟨wr.heap.size+1,5,none⟩=some (.slice aV' lV cV'):=fun u=>(EvBox.cells (World.rowIs.alloc hBBd u)).2.2.2.2.2
   have HN1:=hide (fun w6 vO' ob h1 h2 h3=>HNX1.out wc wd w6 vO' o ob HOc.out hoat hgd h1 h2 h3)
   have HSN:=hide (ownCells_snoc os o)
   obtain ⟨o1,o2,o3,o4,on,om⟩:=o
   obtain ⟨A1,C1,e1,_⟩:=hoat.a
   obtain ⟨B1,D1,e2,_⟩:=hoat.b
   obtain ⟨A3,C3,e3,_⟩:=hoat.c
   obtain ⟨A4,C4,e4,_⟩:=hoat.d
   simp only at e1 e2 e3 e4
   subst e1 e2 e3 e4
   have hs4d:w4.heap.size≤wd.heap.size:=by have:=HOc.out.size;omega
   clear hoat hgd hBAd hBBd p4 HOW1 HNX1
   go_wp2_with (at_builtin;refine wpList_append_lies _ rfl _ _ _ rfl w4.heap.size 41 i0 _ 5 104 Tryz.underlying28 hi0 hz0 hz1 hz2 rfl (by omega) _ (2 * i) (ownCells os) rfl (hownO.alloc _) ⟨wd.heap.size,0,none⟩ 1 1 [.slice A1 on C1,.slice B1 (on+1) D1,.slice A3 (on+2) C3,.slice A4 (on+6) C4,.int .i64 om] rfl rfl (World.news_of_block (cs:=#[.slice A1 on C1,.slice B1 (on+1) D1,.slice A3 (on+2) C3,.slice A4 (on+6) C4,.int .i64 om]) (t:=41) (fr:=(0,0)) (heap_alloc_new wd _)) (by simp [Value.oneCell']) (by omega) (by unfold maxLen;omega) (by omega) (by simp;omega) (wd.heap.size+1) (by simp) ?_;intro gg cap2 w6 hown6 hgrow hat hlt6;have k5:=hgrow.cell (a:=⟨wr.heap.size,5,none⟩) (qa _) neOA;have k6:=hgrow.cell (a:=⟨wr.heap.size+1,5,none⟩) (qb _) neOB)
   have hat6:(Value.slice (some ⟨gg,0,none⟩) (2 * i+1) cap2).ownBlock=(Value.slice aO (2 * i) cO).ownBlock∨∃ b,(Value.slice (some ⟨gg,0,none⟩) (2 * i+1) cap2).ownBlock=some b∧wd.heap.size≤b:=by
    rcases hat with hat | hat
    ·exact .inl hat.symm
    ·exact .inr ⟨gg,rfl,by omega⟩
   have hO6:=HN1.out w6 (.slice (some ⟨gg,0,none⟩) (2 * i+1) cap2) _ hgrow hat6 (by rw [HSN.out];exact hown6)
   have hs6:=hgrow.size
   simp at hs6
   have hBA6:EvBox w6 wr.heap.size ek ea ed en (.slice aT lT cT) (.slice aV lV cV):=World.rowIs.of_block (World.rowIs.alloc HBAd.out _) (hgrow.block _ (by simp;omega) neOA)
   have hBB6:EvBox w6 (wr.heap.size+1) ek ea ed en (.slice aT' lT cT') (.slice aV' lV cV'):=World.rowIs.of_block (World.rowIs.alloc HBBd.out _) (hgrow.block _ (by simp;omega) neOB)
   have HO6:=hide hO6
   have HBA6:=hide hBA6
   clear hown6 hgrow hat hat6 hlt6 hO6 hBA6 hBB6 k5 k6 HN1 HSN hownO HBAd HBBd HOc HBAc HBBc qa qb
   refine (HSM2.out w6 _ _ HO6.out).mono ?_
   rintro e we ⟨rfl,hbe⟩
   have hse:=hbe.size
   have hBAe:EvBox we wr.heap.size ek ea ed en (.slice aT lT cT) (.slice aV lV cV):=World.rowIs.of_block HBA6.out (hbe.block _ (World.rowIs.lt HBA6.out))
   obtain ⟨_,_,_,_,_,p5⟩:=hBAe.cells
   have HOe:=hide (HO6.out.below hbe)
   generalize os ++ [(⟨.slice A1 on C1,.slice B1 (on+1) D1,.slice A3 (on+2) C3,.slice A4 (on+6) C4,on,om⟩:OwnV)]=os1 at *
   clear hbe hBAe HSM2 HO6 HBA6
   go_wp2_with fail
   refine (HOW2.out we _ _ HOe.out).mono ?_
   rintro e wf ⟨o,rfl,hoat,hgf⟩
   have hsf:=hgf.size
   have hownO:=own_of HOe.out.own (w':=wf) (fun b hb=>hgf.block b (HOe.out.own.lt b hb).2 (fun e=>by have h1:=(HOe.out.own.lt b hb).1;have h2:=hVb b e.symm;omega))
   have HN2:=hide (fun w7 vO' ob h1 h2 h3=>HNX2.out we wf w7 os1 _ vO' o ob HOe.out hoat hgf h1 h2 h3)
   have HSN:=hide (ownCells_snoc os1 o)
   obtain ⟨o1,o2,o3,o4,on',om'⟩:=o
   obtain ⟨A1',C1',e1,_⟩:=hoat.a
   obtain ⟨B1',D1',e2,_⟩:=hoat.b
   obtain ⟨A3',C3',e3,_⟩:=hoat.c
   obtain ⟨A4',C4',e4,_⟩:=hoat.d
   simp only at e1 e2 e3 e4
   subst e1 e2 e3 e4
   have hs4f:w4.heap.size≤wf.heap.size:=by have:=HOe.out.size;omega
   clear hoat hgf p5 HOW2 HNX2
   go_wp2_with (at_builtin;refine wpList_append_lies _ rfl _ _ _ rfl w4.heap.size 41 i0 _ 5 104 Tryz.underlying28 hi0 hz0 hz1 hz2 rfl (by omega) _ (2 * i+1) (ownCells os1) rfl (hownO.alloc _) ⟨wf.heap.size,0,none⟩ 1 1 [.slice A1' on' C1',.slice B1' (on'+1) D1',.slice A3' (on'+2) C3',.slice A4' (on'+6) C4',.int .i64 om'] rfl rfl (World.news_of_block (cs:=#[.slice A1' on' C1',.slice B1' (on'+1) D1',.slice A3' (on'+2) C3',.slice A4' (on'+6) C4',.int .i64 om']) (t:=41) (fr:=(0,0)) (heap_alloc_new wf _)) (by simp [Value.oneCell']) (by omega) (by unfold maxLen;omega) (by omega) (by simp;omega) (wf.heap.size+1) (by simp) ?_;intro gh cap3 w7 hown7 hgrow hat hlt7)
   go_roundw
   case rel=>
    have hat7:(Value.slice (some ⟨gh,0,none⟩) (2 * i+1+1) cap3).ownBlock=(Value.slice (some ⟨gg,0,none⟩) (2 * i+1) cap2).ownBlock∨∃ b,(Value.slice (some ⟨gh,0,none⟩) (2 * i+1+1) cap3).ownBlock=some b∧wf.heap.size≤b:=by
     rcases hat with hat | hat
     ·exact .inl hat.symm
     ·exact .inr ⟨gh,rfl,by omega⟩
    exact ⟨i+1,_,by omega,by go_num,HN2.out w7 (.slice (some ⟨gh,0,none⟩) (2 * i+1+1) cap3) _ hgrow hat7 (by rw [HSN.out];exact hown7)⟩
   case measure=>simp [intOf];omega
  ·have ei:i=E.length:=by omega
   subst ei
   have z1:¬ (E.length:Int)<(E.length:Int):=by omega
   have hlen:=hO.len
   have HSH:=hide hshO
   have HX2:Hid (Below w2.heap.size w2 wr):=hide ((HB3.out.trans (HB4.out.mono s23)).trans (hO.bel (Nat.le_refl _) (by omega) (fun l hl b hb=>(HWH1.out l hl b hb).1)))
   have HXB:Hid (Below bx.heap.size bx wr):=hide (HB2.out.trans (HX2.out.mono HB2.out.size))
   have HX1:Hid (Below w1.heap.size w1 wr):=hide (HBX.out.trans (HXB.out.mono HBX.out.size))
   have HBR:Hid (Below w.heap.size w wr):=hide (HB1.out.trans (HX1.out.mono HB1.out.size))
   obtain ⟨kO,hkO⟩:∃ kO,kO=2 * E.length:=⟨_,rfl⟩
   rw [← hkO] at hlen HSH HO
   rw [← hkO]
   have hk8:kO≤800:=by omega
   clear hO hshO hkO
   rename World=>wq
   go_wp2
   go_loopw [19] (fun vj wx=>∃ j:Nat,j≤kO∧vj = .int .i64 j∧Below wq.heap.size wq wx) (fun vj _=>kO - (intOf vj).toNat)
   case atStart=>exact ⟨0,Nat.zero_le _,rfl,by first | exact Below.refl _ _ | exact below_drewN (Below.refl _ _) _⟩
   case round=>
    obtain ⟨j,hj,rfl,hbj⟩:=hrel
    have HBJ:=hide hbj
    by_cases hjk:j<kO
    ·obtain ⟨gO,rfl,_,hgO⟩:=HSH.out (by omega)
     have hjo:j<os.length:=by omega
     obtain ⟨o,ho⟩:∃ o,o=os[j]'hjo:=⟨_,rfl⟩
     have hcl:∀ i,i<5→wr.cell? ⟨gO,j * 5+i,none⟩=o.cells[i]?:=fun i hi=>by
      rw [(HO.out.below hbj).own.cellAt (j * 5+i) (by omega)]
      have e:=flat_get OwnV.cells 5 own5_len os j i hjo hi
      rw [← ho] at e
      exact e
     have c0:wr.cell? ⟨gO,j * 5,none⟩=some o.a:=hcl 0 (by omega)
     have c1:wr.cell? ⟨gO,j * 5+1,none⟩=some o.b:=hcl 1 (by omega)
     have c2:wr.cell? ⟨gO,j * 5+2,none⟩=some o.c:=hcl 2 (by omega)
     have c3:wr.cell? ⟨gO,j * 5+3,none⟩=some o.d:=hcl 3 (by omega)
     have c4:wr.cell? ⟨gO,j * 5+4,none⟩=some (.int .i64 o.m):=hcl 4 (by omega)
     have H1:=hide (fun W (hW:Below wq.heap.size wq W)=>lholds_any W _ o ((HO.out.below hW).all o (by rw [ho];exact List.getElem_mem hjo)))
     obtain ⟨A1,C1,e1,_⟩:=(HO.out.all o (by rw [ho];exact List.getElem_mem hjo)).a
     obtain ⟨B1,D1,e2,_⟩:=(HO.out.all o (by rw [ho];exact List.getElem_mem hjo)).b
     obtain ⟨A3,C3,e3,_⟩:=(HO.out.all o (by rw [ho];exact List.getElem_mem hjo)).c
     obtain ⟨A4,C4,e4,_⟩:=(HO.out.all o (by rw [ho];exact List.getElem_mem hjo)).d
     simp only [OwnV.val] at H1
     rw [e1,e2,e3,e4] at H1
     rw [e1] at c0
     rw [e2] at c1
     rw [e3] at c2
     rw [e4] at c3
     have j3:(0:Int)≤(j:Int):=by omega
     have j4:(j:Int)<(kO:Int):=by omega
     generalize o.m=om at c4 H1
     generalize o.n=on at c0 c1 c2 c3 H1
     clear hcl ho e1 e2 e3 e4
     go_wp2_with fail
     refine (H1.out wr hbj).mono ?_
     rintro e wc ⟨rfl,hbc⟩
     have HBC2:=hide (HBJ.out.trans (hbc.mono HBJ.out.size))
     clear hbc hbj c0 c1 c2 c3 c4 H1
     go_wp2
     go_roundw
     case rel=>exact ⟨j+1,by omega,by go_num,by first | exact HBC2.out | exact below_drewN HBC2.out _⟩
     case measure=>simp [intOf];omega
    ·have ej:j=kO:=by omega
     subst ej
     have z2:¬ (j:Int)<(j:Int):=by omega
     have HXJ2:Hid (Below w2.heap.size w2 wr):=hide (HX2.out.trans (hbj.mono HX2.out.size))
     have HXJB:Hid (Below bx.heap.size bx wr):=hide (HXB.out.trans (hbj.mono HXB.out.size))
     have HXJ:Hid (Below w.heap.size w wr):=hide (HBR.out.trans (hbj.mono HBR.out.size))
     have HXJ1:Hid (Below w1.heap.size w1 wr):=hide (HX1.out.trans (hbj.mono HX1.out.size))
     have HLF:=hide (lleft_any wr bx.heap.size A2 C2 sc (HS.out.below HXJ.out) HN0.out (.slice aM sc.length cM) (HVM.out.below HXJ2.out))
     clear hbj
     go_wp2_with fail
     refine HLF.out.mono ?_
     rintro e wl ⟨rfl,hbl⟩
     have HXL:Hid (Below w.heap.size w wl):=hide (HXJ.out.trans (hbl.mono HXJ.out.size))
     have HXL1:Hid (Below w1.heap.size w1 wl):=hide (HXJ1.out.trans (hbl.mono HXJ1.out.size))
     have hbn:wl.heap[w1.heap.size]? = some (.cells #[.slice ao lo co,.slice ai li ci] 25):=((HXJB.out.trans (hbl.mono HXJB.out.size)).block w1.heap.size HSZ.out).trans HBC.out
     have c0:=cell_of_row wl w1.heap.size 0 _ _ _ hbn
     have c1:=cell_of_row wl w1.heap.size 1 _ _ _ hbn
     have HST:=hide (lstill_any wl w.heap.size A C ins AS CS (.slice ao lo co) (.slice ai li ci) (HA.out.below HXL.out) (HV.out.below HXL1.out))
     clear hbn hbl HLF
     go_wp2_with fail
     refine HST.out.mono ?_
     rintro e wc ⟨rfl,hbc⟩
     have HBC2:=hide (HXL.out.trans (hbc.mono HXL.out.size))
     clear hbc c0 c1 HST
     go_wp2
     go_ret
     exact ⟨rfl,by first | exact HBC2.out | exact below_drewN HBC2.out _⟩
end Go.Proofs.YtmndgoapkmhglabGreat
