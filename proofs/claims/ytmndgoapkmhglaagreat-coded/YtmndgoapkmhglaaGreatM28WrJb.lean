import Derived.Deep.RegionWith
import Derived.Deep.CutRange
import Derived.Test.YtmndgoapkmhglaaGreatM15JudJ
import Derived.Test.YtmndgoapkmhglaaGreatM22OrdE
import Derived.Test.YtmndgoapkmhglaaGreatM27WrG
namespace Go.Proofs.YtmndgoapkmhglaaGreat
open Go.RowKit
attribute [local go_sem ↓] Go.wp_at_zero Go.wp_at_succ
theorem toPl_snoc (pl:Int) (l:List Rt) (r:Rt):toPl pl (l ++ [r])=toPl pl l ++ (if ((r.dst:Nat):Int)=pl then [r] else []):=by
 unfold toPl
 rw [List.filter_append,List.filter_cons]
 by_cases h:((r.dst:Nat):Int)=pl
 ·rw [if_pos h,if_pos (by simp [h])];rfl
 ·rw [if_neg h,if_neg (by simp [h])];rfl
theorem rtCells_snocW (l:List Rt) (r:Rt):rtCells (l ++ [r])=rtCells l ++ [.int .i64 (r.src:Int),.int .i64 (r.dst:Int),.bool r.late]:=by simp [rtCells,Rt.cells]
set_option maxHeartbeats 2000000 in
set_option maxRecDepth 100000 in
theorem arriving_any (w:World) (q:Nat) (ds:List Dc) (ns:List Nd) (vd vn:Value) (h:ProgAt w q ds ns vd vn) (hwf:ProgWf ds ns) (pl:Int) (hll:(linksF ds ns).length≤1000) :
  Calls Tryz.prog 48 #[.pointer (some ⟨q,0,none⟩),.int .i64 pl] w fun e w'=>∃ v,e = .returned v∧w'.ownsRow w.heap.size 111 3 v (toPl pl (linksF ds ns)).length (rtCells (toPl pl (linksF ds ns)))∧Below w.heap.size w w':=by
 obtain ⟨i0,hi0,hz0,hz1,hz2⟩:=info_parts Tryz.infoRoute
 have HL:=hide (linksOf_any w q ds ns vd vn h hwf)
 clear h hwf
 obtain ⟨lk,hlk⟩:∃ lk,lk=linksF ds ns:=⟨_,rfl⟩
 rw [← hlk] at HL hll ⊢
 clear hlk
 go_enter Tryz.func48,Tryz.ntmps48
 go_wp2_with fail
 refine HL.out.mono ?_
 rintro e w1 ⟨v1,rfl,hown1,hb1⟩
 obtain ⟨a1,c1,rfl,hs1⟩:=own_shape hown1
 have HO1:=hide (own_zero hown1)
 have HS1:=hide hs1
 have HB1:=hide hb1
 clear hown1 hs1 hb1 HL
 go_wp2
 go_loopw [5,11] (fun v i wr=>∃ k:Nat,k≤lk.length∧i = .int .i64 k∧Below w1.heap.size w1 wr∧wr.ownsRow w1.heap.size 111 3 v (toPl pl (lk.take k)).length (rtCells (toPl pl (lk.take k)))) (fun _ i _=>lk.length - (intOf i).toNat)
 case atStart=>exact ⟨0,Nat.zero_le _,rfl,Below.refl _ _,World.ownsRow_nil _ _ _ _⟩
 case round=>
  obtain ⟨k,hk,rfl,hbr,hown⟩:=hrel
  have hlen:(toPl pl (lk.take k)).length≤k:=by
   unfold toPl
   have:=List.length_filter_le (fun r=>((r.dst:Nat):Int) == pl) (lk.take k)
   rw [List.length_take] at this
   omega
  by_cases hkl:k<lk.length
  ·obtain ⟨g,rfl,_,hg⟩:=HS1.out (by omega)
   obtain ⟨r,hr⟩:∃ r,r=lk[k]'hkl:=⟨_,rfl⟩
   obtain ⟨r0,r1,r2⟩:=rt_atW HO1.out hbr hg hkl r hr
   have j1:(0:Int)≤(k:Int):=by omega
   have j2:(k:Int)<(lk.length:Int):=by omega
   have HSN:Hid (toPl pl (lk.take (k+1))=toPl pl (lk.take k) ++ (if ((r.dst:Nat):Int)=pl then [r] else [])):=hide (by rw [List.take_succ_eq_append_getElem hkl,toPl_snoc,← hr])
   have HBR:=hide hbr
   have hsz:=hbr.size
   generalize toPl pl (lk.take k)=T at *
   clear hr hbr
   by_cases hp:((r.dst:Nat):Int)=pl
   ·have q1:((r.dst:Int) == pl)=true:=by rw [hp];simp
    have HSN2:Hid (toPl pl (lk.take (k+1))=T ++ [r]):=hide (by rw [HSN.out,if_pos hp])
    clear hp HSN
    have HOWN:=hide hown
    have hownp:∀ o o',((wr.alloc o).alloc o').ownsRow w1.heap.size 111 3 u5 T.length (rtCells T):=fun o o'=>(hown.alloc o).alloc o'
    clear hown
    go_wp2_with (at_builtin;refine wpList_append_lies _ rfl _ _ _ rfl w1.heap.size 111 i0 _ 3 24 Tryz.underlying100 hi0 hz0 hz1 hz2 rfl (by omega) _ T.length (rtCells T) rfl (hownp _ _) ⟨wr.heap.size+1,0,none⟩ 1 1 [.int .i64 (r.src:Int),.int .i64 (r.dst:Int),.bool r.late] rfl rfl (World.news_of_block (cs:=#[.int .i64 (r.src:Int),.int .i64 (r.dst:Int),.bool r.late]) (t:=111) (fr:=(0,0)) (by have:=heap_alloc_new (wr.alloc (.cells #[.int .i64 (r.src:Int),.int .i64 (r.dst:Int),.bool r.late] 111)) (.cells #[.int .i64 (r.src:Int),.int .i64 (r.dst:Int),.bool r.late] 111);simpa using this)) (by simp [Value.oneCell']) (by omega) (by unfold maxLen;omega) (by omega) (by simp;omega) (wr.heap.size+2) (by simp) ?_;intro gg cap2 w3 hown3 hgrow hat hlt3)
    go_roundw
    case rel=>
     refine ⟨k+1,by omega,by go_num,?_,by rw [HSN2.out,rtCells_snocW,List.length_append];exact hown3⟩
     exact ((HBR.out.alloc HBR.out.size _).alloc (by simp;omega) _).grown hgrow (by simp;omega) (fun j hj=>ownBlock_ge HOWN.out j hj)
    case measure=>simp [intOf];omega
   ·have q1:((r.dst:Int) == pl)=false:=by rw [beq_eq_false_iff_ne];exact hp
    have HSN2:Hid (toPl pl (lk.take (k+1))=T):=hide (by rw [HSN.out,if_neg hp,List.append_nil])
    have HOWN:=hide hown
    clear hp HSN hown
    go_wp2
    go_roundw
    case rel=>exact ⟨k+1,by omega,by go_num,HBR.out.alloc HBR.out.size _,by rw [HSN2.out];exact HOWN.out.alloc _⟩
    case measure=>simp [intOf];omega
  ·have ek:k=lk.length:=by omega
   subst ek
   have z9:¬ (lk.length:Int)<(lk.length:Int):=by omega
   rw [List.take_length] at hown
   have HOWN:=hide hown
   have HBR:=hide hbr
   clear hown hbr hlen
   go_wp2
   go_ret
   exact ⟨_,rfl,own_wkO HOWN.out HB1.out.size,HB1.out.trans (HBR.out.mono HB1.out.size)⟩
def WM.nxt (m:WM) (s:WSt) (nx:List Nat):WM:={ m with s:=s,nx:=nx }
theorem rows_nx (ds:List Dc) (ns:List Nd) (lk:List Rt) (m:WM) (r:Nat):∀ j,up (wRow ds ns lk m) 6 ⟨3,1,m.nx.length+1,tCells (m.nx ++ [r])⟩ j=wRow ds ns lk { m with nx:=m.nx ++ [r] } j:=by
 refine row_up ds ns lk m _ 6 _ ?_ ?_
 ·simp [wRow]
 ·intro j hj
  match j,hj with
  | 0,_ | 1,_ | 2,_ | 3,_ | 4,_ | 5,_ | 7,_ | 8,_ | 9,_=>rfl
  | 6,h=>exact absurd rfl h
  | n+10,_=>rfl
set_option maxHeartbeats 4000000 in
set_option maxRecDepth 100000 in
theorem wnext_any (ts:List Tk) (L:List Dl) (ds:List Dc) (ns:List Nd) (lk:List Rt) (pl:Int) (W:WKnow ts L ds ns) (hlk:lk=toPl pl (routesR ts L)) (hP:WPg ts ds ns lk) (BO BC:Nat) (hBO:BO≤1500) (hBC:BC≤1500) (w:World) (X:Nat→Prop) (b:Nat) (m:WM) (h:Wr w X b pl ds ns lk m) (hrs:m.rs.length=ds.length) (hnx:m.nx=[])
  (hN:NxInv ts L ds ns pl lk BO BC 0 m.s []) (hT:∀ (a:Nat) (d:Dc),ds[a]? = some d→d.kind≠0→((plAt ds (a:Int):Nat):Int)=pl→m.rs.getD a 0<m.s.ops.length) (f:Nat) (hf:lw (m.s.later.drop 0)<f) :
  Calls Tryz.prog 50 #[.pointer (some ⟨b,0,none⟩)] w fun e w'=>
   e = .returned (.tuple #[])∧Wr w' X b pl ds ns lk (m.nxt (wNext (m.env ts ds pl lk) f 0 m.s []).1 (wNext (m.env ts ds pl lk) f 0 m.s []).2)∧Fr X w w':=by
 obtain ⟨i0,hi0,hz0,hz1,hz2⟩:=info_parts Tryz.infoIntO
 obtain ⟨R,hR⟩:∃ R,R=wNext (m.env ts ds pl lk) f 0 m.s []:=⟨_,rfl⟩
 rw [← hR]
 have HST:Hid (∃ (s:WSt) (acc:List Nat) (f':Nat),Wr w X b pl ds ns lk (m.nxt s acc)∧NxInv ts L ds ns pl lk BO BC 0 s acc∧lw (s.later.drop 0)<f'∧wNext (m.env ts ds pl lk) f' 0 s acc=R∧(∀ (a:Nat) (d:Dc),ds[a]? = some d→d.kind≠0→((plAt ds (a:Int):Nat):Int)=pl→m.rs.getD a 0<s.ops.length)∧Fr X w w):=
  hide ⟨m.s,[],f,by rw [show m.nxt m.s []=m from (by unfold WM.nxt;rw [← hnx])];exact h,hN,hf,hR.symm,hT,Fr.refl _ _⟩
 have HW:=hide W
 have HLK:=hide hlk
 have HP:=hide hP
 clear h hnx hN hT hf hR W hlk hP
 go_enter Tryz.func50,Tryz.ntmps50
 go_wp2
 go_loopw [2] (fun vi wr=>∃ (k:Nat) (s:WSt) (acc:List Nat) (f':Nat),vi = .int .i64 k∧Wr wr X b pl ds ns lk (m.nxt s acc)∧NxInv ts L ds ns pl lk BO BC k s acc∧lw (s.later.drop k)<f'∧wNext (m.env ts ds pl lk) f' k s acc=R∧(∀ (a:Nat) (d:Dc),ds[a]? = some d→d.kind≠0→((plAt ds (a:Int):Nat):Int)=pl→m.rs.getD a 0<s.ops.length)∧Fr X w wr) (fun vi _=>2000 - (intOf vi).toNat)
 case atStart=>
  obtain ⟨s,acc,f',h1,h2,h3,h4,h5,h6⟩:=HST.out
  exact ⟨0,s,acc,f',rfl,h1,h2,h3,h4,h5,h6⟩
 case round=>
  clear HST
  obtain ⟨k,s,acc,f',rfl,hWr,hN,hf,hR,hT,hF⟩:=hrel
  have hkle:=hN.le
  have hlc:=hN.sm
  have hbc:=hN.bc
  have hal:=hN.al
  obtain ⟨v,hv⟩:=hWr
  obtain ⟨a9,c9,e9,hs9⟩:=own_shape (hv.rows 9)
  have e9':v 9 = .slice a9 (s.later.map Lt.o).length c9:=e9
  have hown9:wr.ownsRow 0 3 1 (.slice a9 (s.later.map Lt.o).length c9) (s.later.map Lt.o).length (tCells (s.later.map Lt.o)):=by rw [← e9'];exact hv.rows 9
  have hs9':0<(s.later.map Lt.o).length→∃ g,a9=some ⟨g,0,none⟩∧0≤g∧g<wr.heap.size:=hs9
  have y9:wr.cell? ⟨b,9,none⟩=some (.slice a9 (s.later.map Lt.o).length c9):=by rw [← e9'];exact hv.cell.2.2.2.2.2.2.2.2.2
  have hlm:(s.later.map Lt.o).length=s.later.length:=List.length_map _
  rw [hlm] at hown9 y9 hs9' e9'
  have HWR:Hid (Wr wr X b pl ds ns lk (m.nxt s acc)):=hide ⟨v,hv⟩
  have HF:=hide hF
  clear e9 hs9 hv
  by_cases hkl:k<s.later.length
  ·obtain ⟨g9,rfl,_,hg9⟩:=hs9' (by omega)
   obtain ⟨l,hl⟩:∃ l,l=s.later[k]'hkl:=⟨_,rfl⟩
   have hlk':s.later[k]? = some l:=by rw [List.getElem?_eq_getElem hkl,hl]
   have x9:wr.cell? ⟨g9,k,none⟩=some (.int .i64 (l.o:Int)):=by
    rw [hown9.cellAt k (by omega)]
    unfold tCells
    rw [List.getElem?_map,List.getElem?_map,hlk'];rfl
   have hL:=hN.lt l (List.mem_of_getElem? hlk')
   have hbo:=hN.bo
   have hw1:=lw_drop hlk'
   have hf1:=lf_drop (ts:=ts) hlk'
   have HIH:=hide (wexpr_any ts ds ns lk pl HP.out l.t l.i l.dl l.o hL.sp hL.nd wr X b (m.nxt s acc) HWR.out hrs ⟨by show s.ops.length+_≤_;omega,by show s.cells.length+_≤_;omega,by show s.later.length+_≤_;omega⟩)
   have hstep:=ninv_step HW.out HLK.out hN hT hlk'
   have hpre:=pre_expr (m.env ts ds pl lk) l.t l.i l.dl l.o s
   have hgain:=wx_gain (m.env ts ds pl lk) l.t l.i l.dl l.o s
   obtain ⟨y,hy⟩:∃ y,y=wExpr (m.env ts ds pl lk) l.t l.i l.dl l.o s:=⟨_,rfl⟩
   have e2:wExpr ((m.nxt s acc).env ts ds pl lk) l.t l.i l.dl l.o (m.nxt s acc).s=y:=hy.symm
   rw [e2] at HIH
   have hstep':NxInv ts L ds ns pl lk BO BC (k+1) y.1 (acc ++ [y.2]):=by rw [hy];exact hstep
   rw [← hy] at hpre hgain
   obtain ⟨f2,rfl⟩:∃ f2,f'=f2+1:=⟨f' - 1,by omega⟩
   have hR2:wNext (m.env ts ds pl lk) f2 (k+1) y.1 (acc ++ [y.2])=R:=by
    rw [← hR]
    simp only [wNext,hlk']
    rw [← hy]
   have hf2:lw (y.1.later.drop (k+1))<f2:=by
    obtain ⟨o,c,mm,hm⟩:=hpre
    have hml:y.1.later=s.later ++ mm:=by rw [hm]
    rw [hml,List.drop_append_of_le_length (by omega),lw_app]
    rw [hml,lw_app] at hgain
    omega
   have hT2:∀ (a:Nat) (d:Dc),ds[a]? = some d→d.kind≠0→((plAt ds (a:Int):Nat):Int)=pl→m.rs.getD a 0<y.1.ops.length:=fun a d h1 h2 h3=>Nat.lt_of_lt_of_le (hT a d h1 h2 h3) hpre.len.1
   have HNEW:=hide (show NxInv ts L ds ns pl lk BO BC (k+1) y.1 (acc ++ [y.2])∧lw (y.1.later.drop (k+1))<f2∧wNext (m.env ts ds pl lk) f2 (k+1) y.1 (acc ++ [y.2])=R∧(∀ (a:Nat) (d:Dc),ds[a]? = some d→d.kind≠0→((plAt ds (a:Int):Nat):Int)=pl→m.rs.getD a 0<y.1.ops.length) from ⟨hstep',hf2,hR2,hT2⟩)
   have hacl:acc.length≤1500:=by omega
   have hk15:k≤1500:=by omega
   have j1:(0:Int)≤(k:Int):=by omega
   have j2:(k:Int)<(s.later.length:Int):=by omega
   have HK:=hide hkl
   clear hN hR hT hlk' hl hL hstep hstep' hpre hgain hy e2 hR2 hf2 hT2 hown9 hs9' e9' hlm hf hF hw1 hf1 hbo hkl hal hlc hbc hkle
   go_wp2_with fail
   refine HIH.out.mono ?_
   rintro e w2 ⟨rfl,hw2,hf2⟩
   have HF2:=hide (HF.out.trans hf2)
   obtain ⟨v,hv⟩:=hw2
   obtain ⟨a6,c6,e6,_⟩:=own_shape (hv.rows 6)
   have e6':v 6 = .slice a6 acc.length c6:=e6
   have hown:w2.ownsRow 0 3 1 (.slice a6 acc.length c6) acc.length (tCells acc):=by rw [← e6'];exact hv.rows 6
   have y6:w2.cell? ⟨b,6,none⟩=some (.slice a6 acc.length c6):=by rw [← e6'];exact hv.cell.2.2.2.2.2.2.1
   have lb:=hv.lt
   have fz6:=hv.froz 6
   have nbv:(Value.slice a6 acc.length c6).ownBlock≠some b:=by rw [← e6'];exact hv.nb 6
   have ca:(w2.alloc (.cells #[.int .i64 (y.2:Int)] 3)).cell? ⟨b,6,none⟩=some (.slice a6 acc.length c6):=by rw [World.cell?_alloc_past _ _ _ lb];exact y6
   have fa:(w2.alloc (.cells #[.int .i64 (y.2:Int)] 3)).frozen? ⟨b,6,none⟩=false:=by rw [World.frozen?_alloc_past _ _ _ lb];exact fz6
   have HV:=hide hv
   have HE6:=hide e6'
   have HRA:=hide (rows_nx ds ns lk ((m.nxt s acc).st y.1) y.2)
   clear hv e6 e6' hf2 HIH HF x9 y9
   go_wp2_with (at_builtin;refine wpList_append_lies _ rfl _ _ _ rfl 0 3 i0 _ 1 8 Tryz.underlying34 hi0 hz0 hz1 hz2 rfl (by omega) _ acc.length (tCells acc) rfl (hown.alloc _) ⟨w2.heap.size,0,none⟩ 1 1 [.int .i64 (y.2:Int)] rfl rfl (World.news_of_block (cs:=#[.int .i64 (y.2:Int)]) (t:=3) (fr:=(0,0)) (heap_alloc_new w2 _)) (by simp [Value.oneCell']) (by omega) (by unfold maxLen;omega) (by omega) (by simp) (w2.heap.size+1) (by simp) ?_;intro gg cap2 w3 hown3 hgrow hat hlt3;have k6:=(hgrow.cell_far ⟨b,6,none⟩ (by simp;omega) (Ne.symm nbv)).trans ca;have z6:=(hgrow.frozen_far ⟨b,6,none⟩ (by simp;omega) (Ne.symm nbv)).trans fa)
   go_roundw
   case rel=>
    have hPa:=HV.out.below ((Below.refl w2.heap.size w2).alloc (Nat.le_refl _) (.cells #[.int .i64 (y.2:Int)] 3))
    have hfin:=hPa.push 6 (by omega) (g:=gg) (cap:=cap2) (len:=acc.length+1) (r:=⟨3,1,acc.length+1,tCells (acc ++ [y.2])⟩) (by rw [HE6.out];exact hgrow) (by rw [tCells_snoc];exact hown3) rfl (by rw [HE6.out];exact hat_le hat (by simp))
    obtain ⟨n1,n2,n3,n4⟩:=HNEW.out
    exact ⟨k+1,y.1,acc ++ [y.2],f2,by go_num,⟨_,hfin.1.cast HRA.out⟩,n1,n2,n3,n4,(HF2.out.trans (Fr.of_below ((Below.refl w2.heap.size w2).alloc (Nat.le_refl _) (.cells #[.int .i64 (y.2:Int)] 3)) HV.out.xlt)).trans hfin.2⟩
   case measure=>simp [intOf];omega
  ·have ek:k=s.later.length:=by omega
   subst ek
   have z9:¬ (s.later.length:Int)<(s.later.length:Int):=by omega
   have hRR:R=(s,acc):=by
    rw [← hR]
    obtain ⟨f2,rfl⟩:∃ f2,f'=f2+1:=⟨f' - 1,by omega⟩
    simp only [wNext,List.getElem?_eq_none (Nat.le_refl s.later.length)]
   have HRR:=hide hRR
   clear hN hR hT hRR hown9 hs9' e9' hlm hf hF hal hlc hbc hkle
   go_wp2
   go_end0
   exact ⟨rfl,by rw [HRR.out];exact HWR.out,HF.out⟩
theorem outP_snoc (pl:Int) (d:Dc):∀ (l:List Dc) (a:Nat),outP pl a (l ++ [d])=outP pl a l ++ (if d.kind≠0∧((d.place:Nat):Int)=pl then [(a+l.length,d.number)] else []):=by
 intro l
 induction l with
 | nil=>intro a;simp only [List.nil_append,outP,List.length_nil,Nat.add_zero]
 | cons x r ih=>
  intro a
  simp only [List.cons_append,outP,List.length_cons]
  rw [ih (a+1),show a+1+r.length=a+(r.length+1) by omega]
  by_cases h:x.kind≠0∧((x.place:Nat):Int)=pl
  ·rw [if_pos h,if_pos h];rfl
  ·rw [if_neg h,if_neg h]
def outsW (pl:Int) (rs:List Nat) (l:List Dc):List Nat:=(outP pl 0 l).map fun p=>rs.getD p.1 0
theorem outsW_snoc (pl:Int) (rs:List Nat) (l:List Dc) (d:Dc):outsW pl rs (l ++ [d])=outsW pl rs l ++ (if d.kind≠0∧((d.place:Nat):Int)=pl then [rs.getD l.length 0] else []):=by
 unfold outsW
 rw [outP_snoc,List.map_append]
 by_cases h:d.kind≠0∧((d.place:Nat):Int)=pl
 ·rw [if_pos h,if_pos h];simp
 ·rw [if_neg h,if_neg h];rfl
theorem outsW_len (pl:Int) (rs:List Nat):∀ (l:List Dc),(outsW pl rs l).length≤l.length:=by
 intro l
 unfold outsW
 rw [List.length_map]
 have:∀ (l:List Dc) (a:Nat),(outP pl a l).length≤l.length:=by
  intro l
  induction l with
  | nil=>intro a;simp [outP]
  | cons x r ih=>
   intro a
   simp only [outP]
   split
   ·have:=ih (a+1);simp;omega
   ·have:=ih (a+1);simp;omega
 exact this l 0
def dcBlkW (d:Dc):Obj:=.cells #[.int .i64 (d.kind:Int),.int .i64 (d.number:Int),.string d.name,.int .i64 (d.pos:Int),.int .i64 (d.place:Int),.int .i64 (d.root:Int),.int .i64 (d.fin:Int)] 91
def WM.outs (m:WM) (o:List Nat):WM:={ m with out:=o }
theorem rows_out (ds:List Dc) (ns:List Nd) (lk:List Rt) (m:WM) (o:List Nat) (r:Nat):∀ j,up (wRow ds ns lk (m.outs o)) 7 ⟨3,1,o.length+1,tCells (o ++ [r])⟩ j=wRow ds ns lk (m.outs (o ++ [r])) j:=by
 refine row_up ds ns lk _ _ 7 _ ?_ ?_
 ·simp [wRow,WM.outs]
 ·intro j hj
  match j,hj with
  | 0,_ | 1,_ | 2,_ | 3,_ | 4,_ | 5,_ | 6,_ | 8,_ | 9,_=>rfl
  | 7,h=>exact absurd rfl h
  | n+10,_=>rfl
set_option maxHeartbeats 4000000 in
set_option maxRecDepth 100000 in
theorem wout_any (w:World) (X:Nat→Prop) (b:Nat) (pl:Int) (ds:List Dc) (ns:List Nd) (lk:List Rt) (m:WM) (h:Wr w X b pl ds ns lk (m.outs [])) (hrs:m.rs.length=ds.length) (hd16:ds.length≤300) :
  Calls Tryz.prog 51 #[.pointer (some ⟨b,0,none⟩)] w fun e w'=>
   e = .returned (.tuple #[])∧Wr w' X b pl ds ns lk (m.outs (outsW pl m.rs ds))∧Fr X w w':=by
 obtain ⟨i0,hi0,hz0,hz1,hz2⟩:=info_parts Tryz.infoIntO
 have HWR:=hide h
 obtain ⟨v0,hv0⟩:=h
 obtain ⟨a0,c0,e0,hs0⟩:=own_shape (hv0.rows 0)
 have y0:w.cell? ⟨b,0,none⟩=some (.slice a0 ds.length c0):=by rw [hv0.cell.1];exact congrArg some e0
 have hs0':0<ds.length→∃ g,a0=some ⟨g,0,none⟩∧0≤g∧g<w.heap.size:=hs0
 have HS0:=hide hs0'
 have HE0:=hide (show v0 0 = .slice a0 ds.length c0 from e0)
 clear hv0 e0 hs0 hs0'
 go_enter Tryz.func51,Tryz.ntmps51
 go_wp2
 go_loopw [10] (fun vi wr=>∃ k:Nat,k≤ds.length∧vi = .int .i64 k∧(∃ v,WrV wr X b pl (wRow ds ns lk (m.outs (outsW pl m.rs (ds.take k)))) v∧v 0 = .slice a0 ds.length c0)∧Fr X w wr) (fun vi _=>ds.length - (intOf vi).toNat)
 case atStart=>
  obtain ⟨v,hv⟩:=HWR.out
  refine ⟨0,Nat.zero_le _,rfl,⟨v,hv,?_⟩,Fr.refl _ _⟩
  have:=hv.cell.1
  rw [y0] at this
  exact (Option.some.inj this).symm
 case round=>
  obtain ⟨k,hk,rfl,⟨v,hv,hv0⟩,hF⟩:=hrel
  have hol:(outsW pl m.rs (ds.take k)).length≤300:=by have:=outsW_len pl m.rs (ds.take k);rw [List.length_take] at this;omega
  by_cases hkl:k<ds.length
  ·obtain ⟨d,hdd⟩:∃ d,d=ds[k]'hkl:=⟨_,rfl⟩
   have hown0r:wr.ownsRow 0 91 7 (.slice a0 ds.length c0) ds.length (dcCells ds):=by rw [← hv0];exact hv.rows 0
   obtain ⟨g0,rfl,_,_⟩:=HS0.out (by omega)
   have hg0:g0<wr.heap.size:=(hown0r.lt g0 rfl).2
   obtain ⟨x0,x1,x2,x3,x4,x5,x6⟩:=dc_later hown0r (Below.refl _ _) hg0 hkl d hdd
   have HSN:Hid (outsW pl m.rs (ds.take (k+1))=outsW pl m.rs (ds.take k) ++ (if d.kind≠0∧((d.place:Nat):Int)=pl then [m.rs.getD k 0] else [])):=hide (by
    rw [List.take_succ_eq_append_getElem hkl,outsW_snoc,← hdd,List.length_take,Nat.min_eq_left (by omega)])
   obtain ⟨w1,hw1⟩:∃ w1,w1=(wr.alloc (dcBlkW d)).drew:=⟨_,rfl⟩
   have hb1:Below wr.heap.size wr w1:=by rw [hw1];exact ((Below.refl _ _).alloc (Nat.le_refl _) _).drew
   have hv1:=hv.below hb1
   have HF1:=hide (hF.trans (Fr.of_below hb1 hv.xlt))
   have z2:∀ o,(wr.alloc o).cell? ⟨b,2,none⟩=some (.int .i64 pl):=fun o=>(hv.below ((Below.refl _ _).alloc (Nat.le_refl _) o)).cell.2.2.1
   have j1:(0:Int)≤(k:Int):=by omega
   have j2:(k:Int)<(ds.length:Int):=by omega
   have HV1:=hide hv1
   have HV0:=hide hv0
   obtain ⟨O,hO⟩:∃ O,O=outsW pl m.rs (ds.take k):=⟨_,rfl⟩
   rw [← hO] at HV1 HSN hol
   unfold dcBlkW at hw1
   by_cases hkd:d.kind=0
   ·have q0:((d.kind:Int) != 0)=false:=by rw [hkd];rfl
    have HSN2:Hid (outsW pl m.rs (ds.take (k+1))=O):=hide (by rw [HSN.out,if_neg (fun h=>h.1 hkd),List.append_nil])
    clear hv hv1 hv0 hF hdd hown0r hb1 hkd hO HSN
    go_wp2_with fail
    go_big_region
    rw [← hw1]
    clear hw1
    go_wp2
    go_roundw
    case rel=>exact ⟨k+1,by omega,by go_num,⟨v,by rw [HSN2.out];exact HV1.out,HV0.out⟩,HF1.out⟩
    case measure=>simp [intOf];omega
   ·have q0:((d.kind:Int) != 0)=true:=by rw [bne_iff_ne];omega
    by_cases hp:((d.place:Nat):Int)=pl
    ·have q1:((d.place:Int) == pl)=true:=by rw [hp];simp
     have HSN2:Hid (outsW pl m.rs (ds.take (k+1))=O ++ [m.rs.getD k 0]):=hide (by rw [HSN.out,if_pos ⟨hkd,hp⟩])
     obtain ⟨a8,c8,e8,hs8⟩:=own_shape (hv1.rows 8)
     obtain ⟨g8,rfl,_,hg8⟩:=hs8 (by show 0<m.rs.length;omega)
     have e8':v 8 = .slice (some ⟨g8,0,none⟩) m.rs.length c8:=e8
     have hown8:w1.ownsRow 0 3 1 (.slice (some ⟨g8,0,none⟩) m.rs.length c8) m.rs.length (tCells m.rs):=by rw [← e8'];exact hv1.rows 8
     obtain ⟨a7,c7,e7,_⟩:=own_shape (HV1.out.rows 7)
     have e7':v 7 = .slice a7 O.length c7:=e7
     have hown:w1.ownsRow 0 3 1 (.slice a7 O.length c7) O.length (tCells O):=by rw [← e7'];exact HV1.out.rows 7
     have y7:w1.cell? ⟨b,7,none⟩=some (.slice a7 O.length c7):=by rw [← e7'];exact hv1.cell.2.2.2.2.2.2.2.1
     have y8:w1.cell? ⟨b,8,none⟩=some (.slice (some ⟨g8,0,none⟩) m.rs.length c8):=by rw [← e8'];exact hv1.cell.2.2.2.2.2.2.2.2.1
     have z8:w1.cell? ⟨g8,k,none⟩=some (.int .i64 ((m.rs.getD k 0:Nat):Int)):=by
      rw [hown8.cellAt k (by omega)]
      unfold tCells
      rw [List.getElem?_map,List.getElem?_eq_getElem (by omega),List.getD_eq_getElem?_getD,List.getElem?_eq_getElem (by omega)];rfl
     obtain ⟨rv,hrv⟩:∃ rv,rv=m.rs.getD k 0:=⟨_,rfl⟩
     rw [← hrv] at z8 HSN2
     have lb:=hv1.lt
     have fz7:=hv1.froz 7
     have nbv:(Value.slice a7 O.length c7).ownBlock≠some b:=by rw [← e7'];exact hv1.nb 7
     have ca:∀ o,(w1.alloc o).cell? ⟨b,7,none⟩=some (.slice a7 O.length c7):=fun o=>by rw [World.cell?_alloc_past _ _ _ lb];exact y7
     have fa:∀ o,(w1.alloc o).frozen? ⟨b,7,none⟩=false:=fun o=>by rw [World.frozen?_alloc_past _ _ _ lb];exact fz7
     have HE7:=hide e7'
     have HRA:=hide (rows_out ds ns lk m O rv)
     have j5:(k:Int)<(m.rs.length:Int):=by omega
     have HXL:=hide hv1.xlt
     clear hv hv1 hv0 hF hdd hown0r hb1 hkd hO HSN hp e7 e7' e8 e8' hs8 hown8 hrv
     go_wp2_with fail
     go_big_region
     rw [← hw1]
     clear hw1 z2 x0 x1 x2 x3 x4 x5 x6
     go_wp2_with fail
     go_region_law ((refine step_append_lies _ (by rfl) _ _ _ (by rfl) 0 3 i0 _ 1 8 Tryz.underlying34 hi0 hz0 hz1 hz2 rfl (by omega) (.slice a7 O.length c7) O.length (tCells O) (by rfl) ((hown.alloc _).drew) ⟨w1.heap.size,0,none⟩ 1 1 [.int .i64 (rv:Int)] (by rfl) (by rfl) (World.news_of_block (cs:=#[.int .i64 (rv:Int)]) (t:=3) (fr:=(0,0)) (heap_alloc_new w1 _)) (by simp [Value.oneCell']) (by omega) (by unfold maxLen;omega) (by omega) (by simp) (w1.heap.size+1) (by simp) ?_;intro gg cap2 w5 hown3 hgrow hat hlt3;have k4:=(hgrow.cell_far ⟨b,7,none⟩ (by simp;omega) (Ne.symm nbv)).trans (ca _);have e4:=(hgrow.frozen_far ⟨b,7,none⟩ (by simp;omega) (Ne.symm nbv)).trans (fa _)))
     all_goals
      have hPa:=HV1.out.below (((Below.refl w1.heap.size w1).alloc (Nat.le_refl _) (.cells #[.int .i64 (rv:Int)] 3)).drew)
      have hfin:=hPa.push 7 (by omega) (g:=gg) (cap:=cap2) (len:=O.length+1) (r:=⟨3,1,O.length+1,tCells (O ++ [rv])⟩) (by rw [HE7.out];exact hgrow) (by rw [tCells_snoc];exact hown3) rfl (by rw [HE7.out];exact hat_le hat (by simp))
      have HFIN:=hide hfin
      clear hown3 hgrow hat hPa hfin hown k4 e4 y7 y8 z8 fz7
      go_wp2
      go_roundw
      case rel=>exact ⟨k+1,by omega,by go_num,⟨_,by rw [HSN2.out];exact HFIN.out.1.cast HRA.out,by rw [up_other _ _ (by omega)];exact HV0.out⟩,HF1.out.trans ((Fr.of_below (((Below.refl w1.heap.size w1).alloc (Nat.le_refl _) (.cells #[.int .i64 (rv:Int)] 3)).drew) HXL.out).trans HFIN.out.2)⟩
      case measure=>simp [intOf];omega
    ·have q1:((d.place:Int) == pl)=false:=by rw [beq_eq_false_iff_ne];exact hp
     have HSN2:Hid (outsW pl m.rs (ds.take (k+1))=O):=hide (by rw [HSN.out,if_neg (fun h=>hp h.2),List.append_nil])
     clear hv hv1 hv0 hF hdd hown0r hb1 hkd hO HSN hp
     go_wp2_with fail
     go_big_region
     rw [← hw1]
     clear hw1
     go_wp2
     go_roundw
     case rel=>exact ⟨k+1,by omega,by go_num,⟨v,by rw [HSN2.out];exact HV1.out,HV0.out⟩,HF1.out⟩
     case measure=>simp [intOf];omega
  ·have ek:k=ds.length:=by omega
   subst ek
   have z9:¬ (ds.length:Int)<(ds.length:Int):=by omega
   rw [List.take_length] at hv
   have HV:=hide hv
   have HF:=hide hF
   clear hv hF hv0 hol
   go_wp2
   go_end0
   exact ⟨rfl,⟨v,HV.out⟩,HF.out⟩
def mZero (ds:List Dc):WM:=⟨⟨[],[],[]⟩,[],[],List.replicate ds.length 0⟩
def vZero (vd vn v3 v8:Value):Nat→Value
 | 0=>vd
 | 1=>vn
 | 3=>v3
 | 8=>v8
 | _=>.slice none 0 0
theorem own_zeros {w:World}{g n:Nat} (h:w.rowIs g 3 n (fun _=>.int .i64 0)) (hn:n≤1500):w.ownsRow 0 3 1 (.slice (some ⟨g,0,none⟩) n n) n (tCells (List.replicate n 0)):=by
 obtain ⟨c,h1,h2,h3⟩:=h
 refine ⟨by simp [tCells],.inr ⟨g,n,c,rfl,Nat.zero_le _,h1,Nat.le_refl _,by unfold maxLen;omega,by omega,?_⟩⟩
 apply List.ext_getElem?
 intro i
 rw [Nat.mul_one]
 by_cases hi:i<n
 ·rw [List.getElem?_take,if_pos hi,Array.getElem?_toList,h3 i hi]
  unfold tCells
  rw [List.getElem?_map,List.getElem?_replicate,if_pos hi];rfl
 ·rw [List.getElem?_take,if_neg hi]
  unfold tCells
  rw [List.getElem?_map,List.getElem?_replicate,if_neg hi];rfl
theorem wr_start {w1 W:World}{vd vn v3:Value}{q:Nat}{ds:List Dc}{ns:List Nd}{lk:List Rt}{pl:Int} (hP:ProgAt w1 q ds ns vd vn) (hb:Below w1.heap.size w1 W) {b g:Nat} (hbn:w1.heap.size≤b) (hgn:w1.heap.size≤g) (hbg:b≠g)
  (hat:W.heap[b]? = some (.cells #[vd,vn,.int .i64 pl,v3,.slice none 0 0,.slice none 0 0,.slice none 0 0,.slice none 0 0,.slice (some ⟨g,0,none⟩) ds.length ds.length,.slice none 0 0] 103)) (hrow:W.rowIs g 3 ds.length (fun _=>.int .i64 0))
  (h3:W.ownsRow w1.heap.size 111 3 v3 lk.length (rtCells lk)) (h3b:v3.ownBlock≠some b) (h3g:v3.ownBlock≠some g) (hdl:ds.length≤300):Wr W (fun k=>k<w1.heap.size) b pl ds ns lk (mZero ds):=by
 have hdlt:∀ k,vd.ownBlock=some k→k<w1.heap.size:=fun k hk=>(hP.decls.lt k hk).2
 have hnlt:∀ k,vn.ownBlock=some k→k<w1.heap.size:=fun k hk=>(hP.nodes.lt k hk).2
 have h3lt:∀ k,v3.ownBlock=some k→w1.heap.size≤k:=fun k hk=>(h3.lt k hk).1
 have hdn:∀ k,vd.ownBlock=some k→vn.ownBlock≠some k:=fun k hd hn=>by
  have f1:∃ c,w1.heap[k]? = some (.cells c 91 (0,0)):=by
   rcases hP.decls.2 with ⟨e,_⟩ | ⟨g',_,cur,e,_,e2,_⟩
   ·rw [e] at hd;simp [Value.ownBlock] at hd
   ·rw [e] at hd;simp only [Value.ownBlock,Option.some.injEq] at hd;subst hd;exact ⟨cur,e2⟩
  have f2:∃ c,w1.heap[k]? = some (.cells c 126 (0,0)):=by
   rcases hP.nodes.2 with ⟨e,_⟩ | ⟨g',_,cur,e,_,e2,_⟩
   ·rw [e] at hn;simp [Value.ownBlock] at hn
   ·rw [e] at hn;simp only [Value.ownBlock,Option.some.injEq] at hn;subst hn;exact ⟨cur,e2⟩
  obtain ⟨c1,e1⟩:=f1
  obtain ⟨c2,e2⟩:=f2
  rw [e1] at e2
  simp at e2
 have hg8:(Value.slice (some ⟨g,0,none⟩) ds.length ds.length).ownBlock=some g:=rfl
 refine ⟨vZero vd vn v3 (.slice (some ⟨g,0,none⟩) ds.length ds.length),hat,?_,?_,?_,fun k hk=>Nat.lt_of_lt_of_le hk hb.size,by omega,?_⟩
 ·intro i
  match i with
  | 0=>exact own_eqb hP.decls (fun k hk=>hb.block k (hdlt k hk))
  | 1=>exact own_eqb hP.nodes (fun k hk=>hb.block k (hnlt k hk))
  | 2=>exact World.ownsRow_nil _ _ _ _
  | 3=>exact own_wkO h3 (Nat.zero_le _)
  | 4=>exact World.ownsRow_nil _ _ _ _
  | 5=>exact World.ownsRow_nil _ _ _ _
  | 6=>exact World.ownsRow_nil _ _ _ _
  | 7=>exact World.ownsRow_nil _ _ _ _
  | 8=>
   have:=own_zeros hrow (by omega)
   show W.ownsRow 0 3 1 _ (List.replicate ds.length 0).length (tCells (List.replicate ds.length 0))
   rw [List.length_replicate];exact this
  | 9=>exact World.ownsRow_nil _ _ _ _
  | n+10=>exact World.ownsRow_nil _ _ _ _
 ·intro i j k hij hi hj
  have key:∀ i k,(vZero vd vn v3 (.slice (some ⟨g,0,none⟩) ds.length ds.length) i).ownBlock=some k→(i=0∧vd.ownBlock=some k)∨(i=1∧vn.ownBlock=some k)∨(i=3∧v3.ownBlock=some k)∨(i=8∧k=g):=by
   intro i k h
   match i,h with
   | 0,h=>exact .inl ⟨rfl,h⟩
   | 1,h=>exact .inr (.inl ⟨rfl,h⟩)
   | 2,h=>simp [vZero,Value.ownBlock] at h
   | 3,h=>exact .inr (.inr (.inl ⟨rfl,h⟩))
   | 4,h=>simp [vZero,Value.ownBlock] at h
   | 5,h=>simp [vZero,Value.ownBlock] at h
   | 6,h=>simp [vZero,Value.ownBlock] at h
   | 7,h=>simp [vZero,Value.ownBlock] at h
   | 8,h=>exact .inr (.inr (.inr ⟨rfl,by simpa [vZero,Value.ownBlock] using h.symm⟩))
   | 9,h=>simp [vZero,Value.ownBlock] at h
   | n+10,h=>simp [vZero,Value.ownBlock] at h
  rcases key i k hi with ⟨a,x⟩ | ⟨a,x⟩ | ⟨a,x⟩ | ⟨a,x⟩ <;> rcases key j k hj with ⟨c,y⟩ | ⟨c,y⟩ | ⟨c,y⟩ | ⟨c,y⟩
  ·omega
  ·exact hdn k x y
  ·have:=hdlt k x;have:=h3lt k y;omega
  ·have:=hdlt k x;omega
  ·exact hdn k y x
  ·omega
  ·have:=hnlt k x;have:=h3lt k y;omega
  ·have:=hnlt k x;omega
  ·have:=hdlt k y;have:=h3lt k x;omega
  ·have:=hnlt k y;have:=h3lt k x;omega
  ·omega
  ·subst y;exact h3g x
  ·have:=hdlt k y;omega
  ·have:=hnlt k y;omega
  ·subst x;exact h3g y
  ·omega
 ·intro i
  match i with
  | 0=>intro h;have:=hdlt _ h;omega
  | 1=>intro h;have:=hnlt _ h;omega
  | 2=>simp [vZero,Value.ownBlock]
  | 3=>exact h3b
  | 4=>simp [vZero,Value.ownBlock]
  | 5=>simp [vZero,Value.ownBlock]
  | 6=>simp [vZero,Value.ownBlock]
  | 7=>simp [vZero,Value.ownBlock]
  | 8=>show (some g:Option Nat)≠some b;simp;omega
  | 9=>simp [vZero,Value.ownBlock]
  | n+10=>simp [vZero,Value.ownBlock]
 ·intro i k h4 hk
  match i,h4,hk with
  | 4,_,h=>simp [vZero,Value.ownBlock] at h
  | 5,_,h=>simp [vZero,Value.ownBlock] at h
  | 6,_,h=>simp [vZero,Value.ownBlock] at h
  | 7,_,h=>simp [vZero,Value.ownBlock] at h
  | 8,_,h=>
   have:g=k:=by simpa [vZero,Value.ownBlock] using h
   omega
  | 9,_,h=>simp [vZero,Value.ownBlock] at h
  | n+10,_,h=>simp [vZero,Value.ownBlock] at h
end Go.Proofs.YtmndgoapkmhglaaGreat
namespace Go.Proofs.YtmndgoapkmhglaaGreat
open Go.RowKit
theorem chain_at {W:World}{b g n:Nat}{vd vn v3:Value}{pl:Int} (h:W.heap[b]? = some (.cells #[.slice none 0 0,.slice none 0 0,.int .i64 0,.slice none 0 0,.slice none 0 0,.slice none 0 0,.slice none 0 0,.slice none 0 0,.slice none 0 0,.slice none 0 0] 103)) :
  ((((((((((W.setCell ⟨b,0,none⟩ (vd)).setCell ⟨b,1,none⟩ (vn)).setCell ⟨b,2,none⟩ (.int .i64 pl)).setCell ⟨b,3,none⟩ (v3)).setCell ⟨b,4,none⟩ (.slice none 0 0)).setCell ⟨b,5,none⟩ (.slice none 0 0)).setCell ⟨b,6,none⟩ (.slice none 0 0)).setCell ⟨b,7,none⟩ (.slice none 0 0)).setCell ⟨b,8,none⟩ (.slice (some ⟨g,0,none⟩) n n)).setCell ⟨b,9,none⟩ (.slice none 0 0)).heap[b]? = some (.cells #[vd,vn,.int .i64 pl,v3,.slice none 0 0,.slice none 0 0,.slice none 0 0,.slice none 0 0,.slice (some ⟨g,0,none⟩) n n,.slice none 0 0] 103):=by
 have h0:=heap_setCell_same _ b 0 _ _ (vd) h
 have h1:=heap_setCell_same _ b 1 _ _ (vn) h0
 have h2:=heap_setCell_same _ b 2 _ _ (.int .i64 pl) h1
 have h3:=heap_setCell_same _ b 3 _ _ (v3) h2
 have h4:=heap_setCell_same _ b 4 _ _ (.slice none 0 0) h3
 have h5:=heap_setCell_same _ b 5 _ _ (.slice none 0 0) h4
 have h6:=heap_setCell_same _ b 6 _ _ (.slice none 0 0) h5
 have h7:=heap_setCell_same _ b 7 _ _ (.slice none 0 0) h6
 have h8:=heap_setCell_same _ b 8 _ _ (.slice (some ⟨g,0,none⟩) n n) h7
 have h9:=heap_setCell_same _ b 9 _ _ (.slice none 0 0) h8
 rw [h9];simp
theorem chain_bel {w1 W:World}{b g n:Nat}{vd vn v3:Value}{pl:Int} (h:Below w1.heap.size w1 W) (hb:w1.heap.size≤b):Below w1.heap.size w1 ((((((((((W.setCell ⟨b,0,none⟩ (vd)).setCell ⟨b,1,none⟩ (vn)).setCell ⟨b,2,none⟩ (.int .i64 pl)).setCell ⟨b,3,none⟩ (v3)).setCell ⟨b,4,none⟩ (.slice none 0 0)).setCell ⟨b,5,none⟩ (.slice none 0 0)).setCell ⟨b,6,none⟩ (.slice none 0 0)).setCell ⟨b,7,none⟩ (.slice none 0 0)).setCell ⟨b,8,none⟩ (.slice (some ⟨g,0,none⟩) n n)).setCell ⟨b,9,none⟩ (.slice none 0 0)):=
 ((((((((((h.setCell hb _).setCell hb _).setCell hb _).setCell hb _).setCell hb _).setCell hb _).setCell hb _).setCell hb _).setCell hb _).setCell hb _)
theorem chain_oth {W:World}{b g n k:Nat}{vd vn v3:Value}{pl:Int} (h:k≠b):((((((((((W.setCell ⟨b,0,none⟩ (vd)).setCell ⟨b,1,none⟩ (vn)).setCell ⟨b,2,none⟩ (.int .i64 pl)).setCell ⟨b,3,none⟩ (v3)).setCell ⟨b,4,none⟩ (.slice none 0 0)).setCell ⟨b,5,none⟩ (.slice none 0 0)).setCell ⟨b,6,none⟩ (.slice none 0 0)).setCell ⟨b,7,none⟩ (.slice none 0 0)).setCell ⟨b,8,none⟩ (.slice (some ⟨g,0,none⟩) n n)).setCell ⟨b,9,none⟩ (.slice none 0 0)).heap[k]? = W.heap[k]?:=by
 have hk:∀ (W:World) (i:Nat) (v:Value),(W.setCell ⟨b,i,none⟩ v).heap[k]? = W.heap[k]?:=fun W i v=>heap_setCell_other W ⟨b,i,none⟩ k v h
 rw [hk,hk,hk,hk,hk,hk,hk,hk,hk,hk]
section
variable {w1 w3:World} {vd vn v3:Value} {q n:Nat} {ds:List Dc} {ns:List Nd} {lk:List Rt} {pl:Int} (hP:ProgAt w1 q ds ns vd vn) (hn:ds.length=n) (hdl:ds.length≤300) (hbb:Below w1.heap.size w1 w3)
include hP hn hdl hbb
theorem startA (h3:w3.ownsRow w1.heap.size 111 3 v3 lk.length (rtCells lk)) :
  Wr ((w3.alloc (.cells (madeCells #[.int .i64 0] n) 3)).alloc (.cells #[vd,vn,.int .i64 pl,v3,.slice none 0 0,.slice none 0 0,.slice none 0 0,.slice none 0 0,.slice (some ⟨w3.heap.size,0,none⟩) n n,.slice none 0 0] 103)) (fun k=>k<w1.heap.size) (w3.heap.size+1) pl ds ns lk (mZero ds)∧Below w1.heap.size w1 ((w3.alloc (.cells (madeCells #[.int .i64 0] n) 3)).alloc (.cells #[vd,vn,.int .i64 pl,v3,.slice none 0 0,.slice none 0 0,.slice none 0 0,.slice none 0 0,.slice (some ⟨w3.heap.size,0,none⟩) n n,.slice none 0 0] 103)):=by
 subst hn
 have hs:=hbb.size
 have hb:=(hbb.alloc hbb.size (.cells (madeCells #[.int .i64 0] ds.length) 3)).alloc (by simp;omega) (.cells #[vd,vn,.int .i64 pl,v3,.slice none 0 0,.slice none 0 0,.slice none 0 0,.slice none 0 0,.slice (some ⟨w3.heap.size,0,none⟩) ds.length ds.length,.slice none 0 0] 103)
 refine ⟨wr_start hP hb (b:=w3.heap.size+1) (g:=w3.heap.size) (by omega) hs (by omega) ?_ ?_ ((h3.alloc _).alloc _) (fun e=>by have:=(h3.lt _ e).2;omega) (fun e=>by have:=(h3.lt _ e).2;omega) hdl,hb⟩
 ·have:=heap_alloc_new (w3.alloc (.cells (madeCells #[.int .i64 0] ds.length) 3)) (.cells #[vd,vn,.int .i64 pl,v3,.slice none 0 0,.slice none 0 0,.slice none 0 0,.slice none 0 0,.slice (some ⟨w3.heap.size,0,none⟩) ds.length ds.length,.slice none 0 0] 103)
  rw [World.size_alloc] at this
  exact this
 ·exact (World.rowIs_made w3 (.int .i64 0) ds.length 3).of_block (Below.heap_alloc _ _ _ (by simp))
theorem startB (h3:w3.ownsRow w1.heap.size 111 3 v3 lk.length (rtCells lk)) :
  Wr ((w3.alloc (.cells #[vd,vn,.int .i64 pl,v3,.slice none 0 0,.slice none 0 0,.slice none 0 0,.slice none 0 0,.slice (some ⟨w3.heap.size+1,0,none⟩) n n,.slice none 0 0] 103)).alloc (.cells (madeCells #[.int .i64 0] n) 3)) (fun k=>k<w1.heap.size) w3.heap.size pl ds ns lk (mZero ds)∧Below w1.heap.size w1 ((w3.alloc (.cells #[vd,vn,.int .i64 pl,v3,.slice none 0 0,.slice none 0 0,.slice none 0 0,.slice none 0 0,.slice (some ⟨w3.heap.size+1,0,none⟩) n n,.slice none 0 0] 103)).alloc (.cells (madeCells #[.int .i64 0] n) 3)):=by
 subst hn
 have hs:=hbb.size
 have hb:=(hbb.alloc hbb.size (.cells #[vd,vn,.int .i64 pl,v3,.slice none 0 0,.slice none 0 0,.slice none 0 0,.slice none 0 0,.slice (some ⟨w3.heap.size+1,0,none⟩) ds.length ds.length,.slice none 0 0] 103)).alloc (by simp;omega) (.cells (madeCells #[.int .i64 0] ds.length) 3)
 refine ⟨wr_start hP hb (b:=w3.heap.size) (g:=w3.heap.size+1) hs (by omega) (by omega) ?_ ?_ ((h3.alloc _).alloc _) (fun e=>by have:=(h3.lt _ e).2;omega) (fun e=>by have:=(h3.lt _ e).2;omega) hdl,hb⟩
 ·exact (Below.heap_alloc _ _ _ (by simp)).trans (heap_alloc_new w3 _)
 ·have:=World.rowIs_made (w3.alloc (.cells #[vd,vn,.int .i64 pl,v3,.slice none 0 0,.slice none 0 0,.slice none 0 0,.slice none 0 0,.slice (some ⟨w3.heap.size+1,0,none⟩) ds.length ds.length,.slice none 0 0] 103)) (.int .i64 0) ds.length 3
  rw [World.size_alloc] at this
  exact this
theorem startC {W:World} (hW:W=w1.alloc (.cells (madeCells #[.int .i64 0] n) 3)) (hb3:Below W.heap.size W w3) (h3:w3.ownsRow W.heap.size 111 3 v3 lk.length (rtCells lk)) :
  Wr (w3.alloc (.cells #[vd,vn,.int .i64 pl,v3,.slice none 0 0,.slice none 0 0,.slice none 0 0,.slice none 0 0,.slice (some ⟨w1.heap.size,0,none⟩) n n,.slice none 0 0] 103)) (fun k=>k<w1.heap.size) w3.heap.size pl ds ns lk (mZero ds)∧Below w1.heap.size w1 (w3.alloc (.cells #[vd,vn,.int .i64 pl,v3,.slice none 0 0,.slice none 0 0,.slice none 0 0,.slice none 0 0,.slice (some ⟨w1.heap.size,0,none⟩) n n,.slice none 0 0] 103)):=by
 subst hn
 have hs:=hbb.size
 have hsW:W.heap.size=w1.heap.size+1:=by rw [hW];simp
 have hb:=hbb.alloc hbb.size (.cells #[vd,vn,.int .i64 pl,v3,.slice none 0 0,.slice none 0 0,.slice none 0 0,.slice none 0 0,.slice (some ⟨w1.heap.size,0,none⟩) ds.length ds.length,.slice none 0 0] 103)
 have hs3:=hb3.size
 refine ⟨wr_start hP hb (b:=w3.heap.size) (g:=w1.heap.size) hs (Nat.le_refl _) (by omega) (heap_alloc_new w3 _) ?_ ((own_wkO h3 (by omega)).alloc _) (fun e=>by have:=(h3.lt _ e).2;omega) (fun e=>by have:=(h3.lt _ e).1;omega) hdl,hb⟩
 have h1:=World.rowIs_made w1 (.int .i64 0) ds.length 3
 rw [← hW] at h1
 exact (h1.of_block (hb3.block _ (by omega))).of_block (Below.heap_alloc _ _ _ (by omega))
theorem startD {W:World} (hW:W=(w1.alloc (.cells (madeCells #[.int .i64 0] n) 3)).alloc (.cells #[.slice none 0 0,.slice none 0 0,.int .i64 0,.slice none 0 0,.slice none 0 0,.slice none 0 0,.slice none 0 0,.slice none 0 0,.slice none 0 0,.slice none 0 0] 103)) (hb3:Below W.heap.size W w3) (h3:w3.ownsRow W.heap.size 111 3 v3 lk.length (rtCells lk)) :
  Wr ((((((((((w3.setCell ⟨w1.heap.size+1,0,none⟩ (vd)).setCell ⟨w1.heap.size+1,1,none⟩ (vn)).setCell ⟨w1.heap.size+1,2,none⟩ (.int .i64 pl)).setCell ⟨w1.heap.size+1,3,none⟩ (v3)).setCell ⟨w1.heap.size+1,4,none⟩ (.slice none 0 0)).setCell ⟨w1.heap.size+1,5,none⟩ (.slice none 0 0)).setCell ⟨w1.heap.size+1,6,none⟩ (.slice none 0 0)).setCell ⟨w1.heap.size+1,7,none⟩ (.slice none 0 0)).setCell ⟨w1.heap.size+1,8,none⟩ (.slice (some ⟨w1.heap.size,0,none⟩) n n)).setCell ⟨w1.heap.size+1,9,none⟩ (.slice none 0 0)) (fun k=>k<w1.heap.size) (w1.heap.size+1) pl ds ns lk (mZero ds)∧Below w1.heap.size w1 ((((((((((w3.setCell ⟨w1.heap.size+1,0,none⟩ (vd)).setCell ⟨w1.heap.size+1,1,none⟩ (vn)).setCell ⟨w1.heap.size+1,2,none⟩ (.int .i64 pl)).setCell ⟨w1.heap.size+1,3,none⟩ (v3)).setCell ⟨w1.heap.size+1,4,none⟩ (.slice none 0 0)).setCell ⟨w1.heap.size+1,5,none⟩ (.slice none 0 0)).setCell ⟨w1.heap.size+1,6,none⟩ (.slice none 0 0)).setCell ⟨w1.heap.size+1,7,none⟩ (.slice none 0 0)).setCell ⟨w1.heap.size+1,8,none⟩ (.slice (some ⟨w1.heap.size,0,none⟩) n n)).setCell ⟨w1.heap.size+1,9,none⟩ (.slice none 0 0)):=by
 have hsW:W.heap.size=w1.heap.size+2:=by rw [hW];simp
 have hb:=chain_bel (b:=w1.heap.size+1) (g:=w1.heap.size) (n:=n) (vd:=vd) (vn:=vn) (v3:=v3) (pl:=pl) hbb (by omega)
 have hs3:=hb3.size
 have hz:w3.heap[w1.heap.size+1]? = some (.cells #[.slice none 0 0,.slice none 0 0,.int .i64 0,.slice none 0 0,.slice none 0 0,.slice none 0 0,.slice none 0 0,.slice none 0 0,.slice none 0 0,.slice none 0 0] 103):=by
  rw [hb3.block _ (by omega),hW]
  have:=heap_alloc_new (w1.alloc (.cells (madeCells #[.int .i64 0] n) 3)) (.cells #[.slice none 0 0,.slice none 0 0,.int .i64 0,.slice none 0 0,.slice none 0 0,.slice none 0 0,.slice none 0 0,.slice none 0 0,.slice none 0 0,.slice none 0 0] 103)
  rw [World.size_alloc] at this
  exact this
 subst hn
 refine ⟨wr_start hP hb (b:=w1.heap.size+1) (g:=w1.heap.size) (by omega) (Nat.le_refl _) (by omega) (chain_at hz) ?_ (own_wkO (own_eqb h3 (fun k hk=>chain_oth (by have:=(h3.lt _ hk).1;omega))) (by omega)) (fun e=>by have:=(h3.lt _ e).1;omega) (fun e=>by have:=(h3.lt _ e).1;omega) hdl,hb⟩
 have h1:=World.rowIs_made w1 (.int .i64 0) ds.length 3
 have h2:W.rowIs w1.heap.size 3 ds.length (fun _=>.int .i64 0):=by rw [hW];exact h1.of_block (Below.heap_alloc _ _ _ (by simp))
 exact (h2.of_block (hb3.block _ (by omega))).of_block (chain_oth (by omega))
theorem startE {W:World} (hW:W=(w1.alloc (.cells #[.slice none 0 0,.slice none 0 0,.int .i64 0,.slice none 0 0,.slice none 0 0,.slice none 0 0,.slice none 0 0,.slice none 0 0,.slice none 0 0,.slice none 0 0] 103)).alloc (.cells (madeCells #[.int .i64 0] n) 3)) (hb3:Below W.heap.size W w3) (h3:w3.ownsRow W.heap.size 111 3 v3 lk.length (rtCells lk)) :
  Wr ((((((((((w3.setCell ⟨w1.heap.size,0,none⟩ (vd)).setCell ⟨w1.heap.size,1,none⟩ (vn)).setCell ⟨w1.heap.size,2,none⟩ (.int .i64 pl)).setCell ⟨w1.heap.size,3,none⟩ (v3)).setCell ⟨w1.heap.size,4,none⟩ (.slice none 0 0)).setCell ⟨w1.heap.size,5,none⟩ (.slice none 0 0)).setCell ⟨w1.heap.size,6,none⟩ (.slice none 0 0)).setCell ⟨w1.heap.size,7,none⟩ (.slice none 0 0)).setCell ⟨w1.heap.size,8,none⟩ (.slice (some ⟨w1.heap.size+1,0,none⟩) n n)).setCell ⟨w1.heap.size,9,none⟩ (.slice none 0 0)) (fun k=>k<w1.heap.size) w1.heap.size pl ds ns lk (mZero ds)∧Below w1.heap.size w1 ((((((((((w3.setCell ⟨w1.heap.size,0,none⟩ (vd)).setCell ⟨w1.heap.size,1,none⟩ (vn)).setCell ⟨w1.heap.size,2,none⟩ (.int .i64 pl)).setCell ⟨w1.heap.size,3,none⟩ (v3)).setCell ⟨w1.heap.size,4,none⟩ (.slice none 0 0)).setCell ⟨w1.heap.size,5,none⟩ (.slice none 0 0)).setCell ⟨w1.heap.size,6,none⟩ (.slice none 0 0)).setCell ⟨w1.heap.size,7,none⟩ (.slice none 0 0)).setCell ⟨w1.heap.size,8,none⟩ (.slice (some ⟨w1.heap.size+1,0,none⟩) n n)).setCell ⟨w1.heap.size,9,none⟩ (.slice none 0 0)):=by
 have hsW:W.heap.size=w1.heap.size+2:=by rw [hW];simp
 have hb:=chain_bel (b:=w1.heap.size) (g:=w1.heap.size+1) (n:=n) (vd:=vd) (vn:=vn) (v3:=v3) (pl:=pl) hbb (by omega)
 have hs3:=hb3.size
 have hz:w3.heap[w1.heap.size]? = some (.cells #[.slice none 0 0,.slice none 0 0,.int .i64 0,.slice none 0 0,.slice none 0 0,.slice none 0 0,.slice none 0 0,.slice none 0 0,.slice none 0 0,.slice none 0 0] 103):=by
  rw [hb3.block _ (by omega),hW]
  exact (Below.heap_alloc _ _ _ (by simp)).trans (heap_alloc_new w1 _)
 subst hn
 refine ⟨wr_start hP hb (b:=w1.heap.size) (g:=w1.heap.size+1) (by omega) (by omega) (by omega) (chain_at hz) ?_ (own_wkO (own_eqb h3 (fun k hk=>chain_oth (by have:=(h3.lt _ hk).1;omega))) (by omega)) (fun e=>by have:=(h3.lt _ e).1;omega) (fun e=>by have:=(h3.lt _ e).1;omega) hdl,hb⟩
 have h1:=World.rowIs_made (w1.alloc (.cells #[.slice none 0 0,.slice none 0 0,.int .i64 0,.slice none 0 0,.slice none 0 0,.slice none 0 0,.slice none 0 0,.slice none 0 0,.slice none 0 0,.slice none 0 0] 103)) (.int .i64 0) ds.length 3
 rw [World.size_alloc,← hW] at h1
 exact (h1.of_block (hb3.block _ (by omega))).of_block (chain_oth (by omega))
theorem startF {W:World} (hW:W=w1.alloc (.cells #[.slice none 0 0,.slice none 0 0,.int .i64 0,.slice none 0 0,.slice none 0 0,.slice none 0 0,.slice none 0 0,.slice none 0 0,.slice none 0 0,.slice none 0 0] 103)) (hb3:Below W.heap.size W w3) (h3:w3.ownsRow W.heap.size 111 3 v3 lk.length (rtCells lk)) :
  Wr (((((((((((w3.alloc (.cells (madeCells #[.int .i64 0] n) 3)).setCell ⟨w1.heap.size,0,none⟩ (vd)).setCell ⟨w1.heap.size,1,none⟩ (vn)).setCell ⟨w1.heap.size,2,none⟩ (.int .i64 pl)).setCell ⟨w1.heap.size,3,none⟩ (v3)).setCell ⟨w1.heap.size,4,none⟩ (.slice none 0 0)).setCell ⟨w1.heap.size,5,none⟩ (.slice none 0 0)).setCell ⟨w1.heap.size,6,none⟩ (.slice none 0 0)).setCell ⟨w1.heap.size,7,none⟩ (.slice none 0 0)).setCell ⟨w1.heap.size,8,none⟩ (.slice (some ⟨w3.heap.size,0,none⟩) n n)).setCell ⟨w1.heap.size,9,none⟩ (.slice none 0 0)) (fun k=>k<w1.heap.size) w1.heap.size pl ds ns lk (mZero ds)∧Below w1.heap.size w1 (((((((((((w3.alloc (.cells (madeCells #[.int .i64 0] n) 3)).setCell ⟨w1.heap.size,0,none⟩ (vd)).setCell ⟨w1.heap.size,1,none⟩ (vn)).setCell ⟨w1.heap.size,2,none⟩ (.int .i64 pl)).setCell ⟨w1.heap.size,3,none⟩ (v3)).setCell ⟨w1.heap.size,4,none⟩ (.slice none 0 0)).setCell ⟨w1.heap.size,5,none⟩ (.slice none 0 0)).setCell ⟨w1.heap.size,6,none⟩ (.slice none 0 0)).setCell ⟨w1.heap.size,7,none⟩ (.slice none 0 0)).setCell ⟨w1.heap.size,8,none⟩ (.slice (some ⟨w3.heap.size,0,none⟩) n n)).setCell ⟨w1.heap.size,9,none⟩ (.slice none 0 0)):=by
 have hsW:W.heap.size=w1.heap.size+1:=by rw [hW];simp
 have hb:=chain_bel (b:=w1.heap.size) (g:=w3.heap.size) (n:=n) (vd:=vd) (vn:=vn) (v3:=v3) (pl:=pl) (hbb.alloc hbb.size (.cells (madeCells #[.int .i64 0] n) 3)) (by omega)
 have hs3:=hb3.size
 have hz:(w3.alloc (.cells (madeCells #[.int .i64 0] n) 3)).heap[w1.heap.size]? = some (.cells #[.slice none 0 0,.slice none 0 0,.int .i64 0,.slice none 0 0,.slice none 0 0,.slice none 0 0,.slice none 0 0,.slice none 0 0,.slice none 0 0,.slice none 0 0] 103):=by
  rw [Below.heap_alloc _ _ _ (by omega),hb3.block _ (by omega),hW]
  exact heap_alloc_new w1 _
 subst hn
 refine ⟨wr_start hP hb (b:=w1.heap.size) (g:=w3.heap.size) (by omega) (by omega) (by omega) (chain_at hz) ?_ (own_wkO (own_eqb (h3.alloc _) (fun k hk=>chain_oth (by have:=(h3.lt _ hk).1;omega))) (by omega)) (fun e=>by have:=(h3.lt _ e).1;omega) (fun e=>by have:=(h3.lt _ e).2;omega) hdl,hb⟩
 exact (World.rowIs_made w3 (.int .i64 0) ds.length 3).of_block (chain_oth (by omega))
end
end Go.Proofs.YtmndgoapkmhglaaGreat
