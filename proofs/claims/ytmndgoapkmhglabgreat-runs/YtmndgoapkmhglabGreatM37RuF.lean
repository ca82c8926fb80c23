import Derived.Test.YtmndgoapkmhglabGreatM02BoxC
import Derived.Test.YtmndgoapkmhglabGreatM20OpC
import Derived.Test.YtmndgoapkmhglabGreatM21RefI
import Derived.Test.YtmndgoapkmhglabGreatM24RefR
import Derived.Test.YtmndgoapkmhglabGreatM32OpenT
import Derived.Test.YtmndgoapkmhglabGreatM33OpenA
import Derived.Test.YtmndgoapkmhglabGreatM36RefX
namespace Go.Proofs.YtmndgoapkmhglabGreat
open Go.RowKit
attribute [local go_sem ↓] Go.wp_at_zero Go.wp_at_succ
set_option maxHeartbeats 4000000 in
set_option maxRecDepth 100000 in
theorem rdid_any (w:World) (hb q:Nat) (sc:List OpF) (vS vE vR:Value) (P:PastF) (B:Nat) (TV VV:Nat→Value) (h:Pst w hb q sc vS vE vR P B TV VV) (pl what now:Int) (data:Bool) :
  Calls Tryz.prog 47 #[.pointer (some ⟨hb,0,none⟩),.int .i64 pl,.int .i64 what,.int .i64 now,.bool data] w fun e w'=>e = .returned (.int .i64 ((didF P pl what now data:Nat):Int))∧Below w.heap.size w w':=by
 have hfew:=h.few
 have hle:=h.le
 obtain ⟨aE,cE,hvE,_⟩:=own_shape h.evs.row
 rw [List.length_map] at hvE
 subst hvE
 have H:=hide h
 obtain ⟨AS,CS,rfl,hmS,hcS⟩:=h.ops
 have HCS:=hide hcS
 clear hcS
 go_enter Tryz.func47,Tryz.ntmps47
 go_wp2
 go_loopw [11,12] (fun vn vi wr=>∃ i:Nat,i≤P.length∧vi = .int .i64 i∧vn = .int .i64 ((didF (P.take i) pl what now data:Nat):Int)∧Below w.heap.size w wr) (fun _ vi _=>P.length - (intOf vi).toNat)
 case atStart=>exact ⟨0,Nat.zero_le _,rfl,rfl,Below.refl _ _⟩
 case round=>
  obtain ⟨i,hi,rfl,rfl,hbr⟩:=hrel
  obtain ⟨y0,y1,y2,y3⟩:=(H.out.at'.below hbr).cells
  have HBR:=hide hbr
  have hdl:=didF_len (P.take i) pl what now data
  rw [List.length_take] at hdl
  by_cases hil:i<P.length
  ·have hil':i<(P.map Prod.snd).length:=by rw [List.length_map];exact hil
   obtain ⟨g,c,hv,hg,x0,x1,x2,x3,x4,x5⟩:=H.out.evs.cells hbr hil'
   rw [List.length_map] at hv
   injection hv with e1 e2 e3
   subst e1 e3
   rw [List.getElem_map] at x0 x1 x2 x3
   obtain ⟨aT,cT,eT,_⟩:=own_shape (H.out.evs.took i hil')
   obtain ⟨aV,cV,eV,_⟩:=own_shape (H.out.evs.vals i hil')
   rw [eT] at x4
   rw [eV] at x5
   generalize ((P.map Prod.snd)[i]).took.length=lT at x4
   generalize ((P.map Prod.snd)[i]).vals.length=lV at x5
   obtain ⟨his,hsc⟩:=H.out.act hil
   obtain ⟨bS,oS,rfl,hbS,hrS⟩:=HCS.out (by omega)
   obtain ⟨_,_,_,z3⟩:=hrS i his
   rw [hsc] at z3
   rw [← hbr.cell (p:=⟨bS,oS+i * 4+3,none⟩) hbS] at z3
   obtain ⟨⟨ra0,ra1⟩,_,rc0,rc1⟩:=H.out.rng P[i] (List.getElem_mem hil)
   have HEQ:=hide (didF_take P pl what now data hil)
   unfold isD at HEQ
   generalize didF (P.take i) pl what now data=n0 at *
   generalize P[i].2.k=ek at *
   generalize P[i].2.a=ea at *
   generalize P[i].2.did=ed at *
   generalize P[i].2.n=en at *
   generalize P[i].1.c=oc at *
   obtain ⟨wx,hwx⟩:∃ wx,wx=wr.alloc (.cells #[.int .i64 ek,.int .i64 ea,.int .i64 ed,.int .i64 en,.slice aT lT cT,.slice aV lV cV] 38):=⟨_,rfl⟩
   have hbx:Below wr.heap.size wr wx:=by rw [hwx];exact (Below.refl _ _).alloc (Nat.le_refl _) _
   have b0:wx.cell? ⟨wr.heap.size,0,none⟩=some (.int .i64 ek):=by rw [hwx];exact box_cell _ _ _ _ _ rfl
   have b1:wx.cell? ⟨wr.heap.size,1,none⟩=some (.int .i64 ea):=by rw [hwx];exact box_cell _ _ _ _ _ rfl
   have b2:wx.cell? ⟨wr.heap.size,2,none⟩=some (.int .i64 ed):=by rw [hwx];exact box_cell _ _ _ _ _ rfl
   have hlb:=World.rowIs.lt (H.out.at'.below hbr)
   have y1x:wx.cell? ⟨hb,1,none⟩=some (.slice (some ⟨bS,oS,none⟩) sc.length CS):=(hbx.cell (p:=⟨hb,1,none⟩) hlb).trans y1
   have z3x:wx.cell? ⟨bS,oS+i * 4+3,none⟩=some (.int .i64 oc):=(hbx.cell (p:=⟨bS,oS+i * 4+3,none⟩) (Nat.lt_of_lt_of_le hbS hbr.size)).trans z3
   have HBX:Hid (Below w.heap.size w wx):=hide (hbr.trans (hbx.mono hbr.size))
   have j3:(0:Int)≤(i:Int):=by omega
   have j4:(i:Int)<(P.length:Int):=by omega
   have j5:(i:Int)<(sc.length:Int):=by omega
   have hwr:IntKind.i64.wrap (ea+oc)=ea+oc:=by rw [IntKind.wrap_i64];omega
   have hwn:IntKind.i64.wrap ((n0:Int)+1)=(n0:Int)+1:=by rw [IntKind.wrap_i64];omega
   rw [hwx] at b0 b1 b2 y1x z3x
   obtain ⟨q1,hq1⟩:∃ q1,(ek == pl)=q1:=⟨_,rfl⟩
   obtain ⟨q2,hq2⟩:∃ q2,(ed == what)=q2:=⟨_,rfl⟩
   have hk1:decide (ek=pl)=q1:=by rw [← hq1];rfl
   have hk2:decide (ed=what)=q2:=by rw [← hq2];rfl
   rw [hk1,hk2] at HEQ
   have HWX:=hide hwx
   clear hwx hbx hbr hrS hk1 hk2 hsc eT eV y3 z3
   cases data with
   | true=>
    simp only [if_true] at HEQ
    obtain ⟨q3,hq3⟩:∃ q3,decide (ea+oc≤now)=q3:=⟨_,rfl⟩
    rw [hq3] at HEQ
    cases q1 <;> cases q2 <;> cases q3
    all_goals
     go_wp2
     go_roundw
     case rel=>
      refine ⟨i+1,by omega,by go_num,by rw [HEQ.out];first | rfl | go_num | simp,?_⟩
      rw [← HWX.out];exact HBX.out
     case measure=>simp [intOf];omega
   | false=>
    simp only [Bool.false_eq_true,if_false,Int.add_zero] at HEQ
    obtain ⟨q3,hq3⟩:∃ q3,decide (ea≤now)=q3:=⟨_,rfl⟩
    rw [hq3] at HEQ
    cases q1 <;> cases q2 <;> cases q3
    all_goals
     go_wp2
     go_roundw
     case rel=>
      refine ⟨i+1,by omega,by go_num,by rw [HEQ.out];first | rfl | go_num | simp,?_⟩
      rw [← HWX.out];exact HBX.out
     case measure=>simp [intOf];omega
  ·have ei:i=P.length:=by omega
   subst ei
   rw [List.take_length]
   clear hbr
   go_wp2
   go_ret
   exact ⟨rfl,HBR.out⟩
def cqN (q:Bool) (n:Nat):Nat:=if q=true then n else 0
theorem count_take (l:Nat) (T:List Nat) {k:Nat} (hk:k<T.length):(T.take (k+1)).count l=(T.take k).count l+(if T[k]=l then 1 else 0):=by
 rw [List.take_succ_eq_append_getElem hk,List.count_append,List.count_singleton]
 simp
set_option maxHeartbeats 4000000 in
set_option maxRecDepth 100000 in
theorem rtaken_any (w:World) (hb q:Nat) (sc:List OpF) (vS vE vR:Value) (P:PastF) (B:Nat) (TV VV:Nat→Value) (h:Pst w hb q sc vS vE vR P B TV VV) (l:Nat) (now:Int) (ack:Bool) :
  Calls Tryz.prog 50 #[.pointer (some ⟨hb,0,none⟩),.int .i64 (l:Int),.int .i64 now,.bool ack] w fun e w'=>e = .returned (.int .i64 ((takenF now l ack P:Nat):Int))∧Below w.heap.size w w':=by
 have hfew:=h.few
 have hle:=h.le
 obtain ⟨aE,cE,hvE,_⟩:=own_shape h.evs.row
 rw [List.length_map] at hvE
 subst hvE
 have H:=hide h
 obtain ⟨AS,CS,rfl,hmS,hcS⟩:=h.ops
 have HCS:=hide hcS
 clear hcS
 go_enter Tryz.func50,Tryz.ntmps50
 go_wp2
 go_loopw [9,10] (fun vn vi wr=>∃ i:Nat,i≤P.length∧vi = .int .i64 i∧vn = .int .i64 ((takenF now l ack (P.take i):Nat):Int)∧Below w.heap.size w wr) (fun _ vi _=>P.length - (intOf vi).toNat)
 case atStart=>exact ⟨0,Nat.zero_le _,rfl,rfl,Below.refl _ _⟩
 case round=>
  obtain ⟨i,hi,rfl,rfl,hbr⟩:=hrel
  obtain ⟨y0,y1,y2,y3⟩:=(H.out.at'.below hbr).cells
  have HBR:=hide hbr
  have hdl:=takenF_le now l ack (P.take i) (fun x hx=>H.out.tk x (List.mem_of_mem_take hx))
  rw [List.length_take] at hdl
  have hdl2:takenF now l ack (P.take i)≤2440000:=by
   have:min i P.length * 6100≤400 * 6100:=Nat.mul_le_mul_right _ (by omega)
   omega
  by_cases hil:i<P.length
  ·have hil':i<(P.map Prod.snd).length:=by rw [List.length_map];exact hil
   obtain ⟨g,c,hv,hg,x0,x1,x2,x3,x4,x5⟩:=H.out.evs.cells hbr hil'
   rw [List.length_map] at hv
   injection hv with e1 e2 e3
   subst e1 e3
   rw [List.getElem_map] at x1
   have hoT:=H.out.evs.took i hil'
   rw [List.getElem_map] at hoT
   obtain ⟨aT,cT,eT,hshT⟩:=own_shape hoT
   rw [eT] at x4 hoT
   have htl:=H.out.tk P[i] (List.getElem_mem hil)
   obtain ⟨his,hsc⟩:=H.out.act hil
   obtain ⟨bS,oS,rfl,hbS,hrS⟩:=HCS.out (by omega)
   obtain ⟨_,_,z2,_⟩:=hrS i his
   rw [hsc] at z2
   rw [← hbr.cell (p:=⟨bS,oS+i * 4+2,none⟩) hbS] at z2
   obtain ⟨⟨ra0,ra1⟩,⟨rc0,rc1⟩,_⟩:=H.out.rng P[i] (List.getElem_mem hil)
   have HEQ:=hide (takenF_take now l ack P hil)
   obtain ⟨at0,hat0⟩:∃ at0:Int,at0=P[i].2.a+(if ack then P[i].1.b else 0):=⟨_,rfl⟩
   rw [← hat0] at HEQ
   have HCT:Hid (∀ W,Below wr.heap.size wr W→∀ k,(hk:k<P[i].2.took.length)→∃ gt,aT=some ⟨gt,0,none⟩∧W.cell? ⟨gt,k,none⟩=some (.int .i64 ((P[i].2.took[k]:Nat):Int))):=hide (fun W hW k hk=>by
    obtain ⟨gt,rfl,_,hgt⟩:=hshT (by omega)
    refine ⟨gt,rfl,?_⟩
    rw [hW.cell (p:=⟨gt,k,none⟩) (Nat.lt_of_lt_of_le hgt hbr.size),hbr.cell (p:=⟨gt,k,none⟩) hgt,hoT.cellAt k (by omega)]
    unfold pCells
    rw [List.getElem?_map,List.getElem?_eq_getElem hk]
    rfl)
   have hPT:Hid (takenF now l ack (P.take (i+1))=takenF now l ack (P.take i)+(if at0≤now then (P[i].2.took.take P[i].2.took.length).count l else 0)):=hide (by rw [HEQ.out,List.take_length])
   generalize takenF now l ack (P.take i)=n0 at *
   generalize P[i].2.took=T at *
   generalize P[i].2.a=ea at *
   generalize P[i].1.b=oc at *
   have j3:(0:Int)≤(i:Int):=by omega
   have j4:(i:Int)<(P.length:Int):=by omega
   have j5:(i:Int)<(sc.length:Int):=by omega
   have hwr:IntKind.i64.wrap (ea+oc)=ea+oc:=by rw [IntKind.wrap_i64];omega
   have HX4:Hid (∀ W,Below wr.heap.size wr W→W.cell? ⟨hb,2,none⟩=some (.slice (some ⟨g,0,none⟩) P.length cE)∧W.cell? ⟨g,i * 6+4,none⟩=some (.slice aT T.length cT)):=hide (fun W hW=>⟨(hW.cell (p:=⟨hb,2,none⟩) (World.rowIs.lt (H.out.at'.below hbr))).trans y2,(hW.cell (p:=⟨g,i * 6+4,none⟩) (Nat.lt_of_lt_of_le hg hbr.size)).trans x4⟩)
   obtain ⟨wo,hwo⟩:∃ wo,wo=wr:=⟨_,rfl⟩
   rw [← hwo] at HCT HX4 HBR
   have HWO:=hide hwo
   clear hbr hrS hsc eT x0 x2 x3 x4 x5 y0 y3 hoT hshT hwo HEQ
   obtain ⟨q3,hq3⟩:∃ q3,decide (at0≤now)=q3:=⟨_,rfl⟩
   have HPT2:Hid (takenF now l ack (P.take (i+1))=n0+cqN q3 ((T.take T.length).count l)):=hide (by
    rw [hPT.out,← hq3]
    by_cases hc:at0≤now
    ·unfold cqN;rw [if_pos hc,if_pos (decide_eq_true hc)]
    ·unfold cqN;rw [if_neg hc,if_neg (by simpa using hc)])
   clear hPT
   have HCASE:Hid ((ack=false→at0=ea)∧(ack=true→at0=ea+oc)):=hide (by cases ack <;> simp [hat0])
   clear hat0
   cases ack
   case' false=>
    have hq3a:decide (ea≤now)=q3:=by rw [← HCASE.out.1 rfl];exact hq3
   case' true=>
    have hq3a:decide (ea+oc≤now)=q3:=by rw [← HCASE.out.2 rfl];exact hq3
   all_goals
    clear HCASE
    go_wp2
    rw [← HWO.out]
    clear x1 y1 y2 z2 HWO
    go_loopw [9,12] (fun vn vk wx=>∃ k:Nat,k≤T.length∧vk = .int .i64 k∧vn = .int .i64 ((n0+cqN q3 ((T.take k).count l):Nat):Int)∧Below wo.heap.size wo wx) (fun _ vk _=>T.length - (intOf vk).toNat)
    case atStart=>exact ⟨0,Nat.zero_le _,rfl,by simp [cqN],Below.refl _ _⟩
    case round=>
     obtain ⟨k,hk,rfl,rfl,hbk⟩:=hrel
     obtain ⟨y2,x4⟩:=HX4.out wr hbk
     have HBK:=hide hbk
     by_cases hkl:k<T.length
     ·obtain ⟨gt,rfl,x6⟩:=HCT.out wr hbk k hkl
      have hcl:=List.count_le_length (a:=l) (l:=T.take k)
      rw [List.length_take] at hcl
      have k3:(0:Int)≤(k:Int):=by omega
      have k4:(k:Int)<(T.length:Int):=by omega
      obtain ⟨q1,hq1⟩:∃ q1,(((T[k]:Nat):Int) == (l:Int))=q1:=⟨_,rfl⟩
      have hk1:(T[k]=l)=(q1=true):=by rw [← hq1,beq_iff_eq];exact propext ⟨fun h=>by rw [h],fun h=>by omega⟩
      obtain ⟨m0,hm0⟩:∃ m0,m0=n0+cqN q3 ((T.take k).count l):=⟨_,rfl⟩
      have HM:Hid (n0+cqN q3 ((T.take (k+1)).count l)=m0+(if (q1 && q3)=true then 1 else 0)):=hide (by
       rw [hm0,count_take l T hkl]
       simp only [hk1]
       unfold cqN
       cases q3 <;> cases q1 <;> simp <;> omega)
      have hmb:m0≤2450000:=by rw [hm0];unfold cqN;split <;> omega
      rw [← hm0]
      have hwn:IntKind.i64.wrap ((m0:Int)+1)=(m0:Int)+1:=by rw [IntKind.wrap_i64];omega
      generalize T[k]=tk at *
      clear hbk hm0 hk1 hcl
      cases q1 <;> cases q3
      all_goals
       go_wp2
       go_roundw
       case rel=>exact ⟨k+1,by omega,by go_num,by rw [HM.out];first | rfl | go_num | simp,HBK.out⟩
       case measure=>simp [intOf];omega
     ·have ek:k=T.length:=by omega
      subst ek
      rw [← HPT2.out]
      have HF:Hid (Below w.heap.size w wr):=hide (HBR.out.trans (hbk.mono HBR.out.size))
      clear hbk
      go_wp2
      go_roundw
      case rel=>exact ⟨i+1,by omega,by go_num,by first | rfl | trivial,HF.out⟩
      case measure=>simp [intOf];omega
  ·have ei:i=P.length:=by omega
   subst ei
   rw [List.take_length]
   clear hbr
   go_wp2
   go_ret
   exact ⟨rfl,HBR.out⟩
structure Wk (w:World) (hb q g cap:Nat) (ts:List Tk) (L:List Dl) (vE' vA vI vQ:Value) (sc:List OpF) (vS vE vR:Value) (P:PastF) (B:Nat) (TV VV:Nat→Value):Prop where
 pst:Pst w hb q sc vS vE vR P B TV VV
 prog:RProg w q g cap ts L vE' vA vI vQ
 rts:w.ownsRow 0 88 3 vR (routesR ts L).length (rtCells (routesR ts L))
theorem Wk.below {w w':World}{hb q g cap:Nat}{ts:List Tk}{L:List Dl}{vE' vA vI vQ:Value}{sc:List OpF}{vS vE vR:Value}{P:PastF}{B:Nat}{TV VV:Nat→Value} (h:Wk w hb q g cap ts L vE' vA vI vQ sc vS vE vR P B TV VV) (hB:Below w.heap.size w w'):Wk w' hb q g cap ts L vE' vA vI vQ sc vS vE vR P B TV VV:=
 ⟨h.pst.below hB,h.prog.below hB,bel_own h.rts hB⟩
theorem net_len (ts:List Tk) (L:List Dl):(netR ts L).length=(routesR ts L).length:=by unfold netR;rw [List.length_map]
set_option maxHeartbeats 4000000 in
set_option maxRecDepth 100000 in
theorem rfrom_any (w:World) (hb q g cap:Nat) (ts:List Tk) (L:List Dl) (vE' vA vI vQ:Value) (sc:List OpF) (vS vE vR:Value) (P:PastF) (B:Nat) (TV VV:Nat→Value) (h:Wk w hb q g cap ts L vE' vA vI vQ sc vS vE vR P B TV VV) (ho:ROk ts L) (l:Nat) (hl:l<(netR ts L).length) :
  Calls Tryz.prog 48 #[.pointer (some ⟨hb,0,none⟩),.int .i64 (l:Int)] w fun e w'=>e = .returned (.int .i64 (lnAt (netR ts L) l).src)∧Below w.heap.size w w':=by
 obtain ⟨r,x,hr,hrm,hx,hln,_,_,_⟩:=net_at hl
 have hlr:l<(routesR ts L).length:=by rw [← net_len];exact hl
 have hr':r=(routesR ts L)[l]'hlr:=by rw [List.getElem?_eq_getElem hlr] at hr;exact (Option.some.inj hr).symm
 obtain ⟨hxi,hxe⟩:=List.getElem?_eq_some_iff.1 hx
 obtain ⟨y0,y1,y2,y3⟩:=h.pst.at'.cells
 obtain ⟨aR,cR,eR,hshR⟩:=own_shape h.rts
 obtain ⟨gR,rfl,_,hgR⟩:=hshR (by omega)
 have hrt:=h.rts
 rw [eR] at hrt y3
 obtain ⟨z0,z1,z2⟩:=rtAt_cells hrt hlr r hr'
 obtain ⟨aQ,cQ,eQ,hshQ⟩:=own_shape h.prog.eqs
 obtain ⟨gQ,rfl,_,hgQ⟩:=hshQ (by omega)
 have hq:=h.prog.eqs
 rw [eQ] at hq
 have c4:=h.prog.c4
 rw [eQ] at c4
 obtain ⟨u0,u1,u2,u3,u4,u5⟩:=rd_later hq (Below.refl _ _) hgQ hxi (rdc ts x) (by rw [hxe])
 have e5:((rdc ts x).place:Int)=(lnAt (netR ts L) l).src:=by rw [hln,(rdc_truth ts (ho.eq (List.mem_of_getElem? hx)).2.1).2.2]
 rw [e5] at u4
 generalize (lnAt (netR ts L) l).src=sl at *
 have i1:(0:Int)≤(l:Int):=by omega
 have i2:(l:Int)<((routesR ts L).length:Int):=by omega
 have i3:(0:Int)≤(r.src:Int):=by omega
 have i4:(r.src:Int)<((eqL L).length:Int):=by omega
 have HBN:=hide (below_drewN (Below.refl w.heap.size w))
 clear h ho hrt hq hln hr hrm hx hr' hxe eR eQ hshR hshQ u0 u1 u2 u3 u5 z1 z2 y1 y2 e5
 go_enter Tryz.func48,Tryz.ntmps48
 go_wp2_with fail
 go_big_region
 go_wp2
 go_ret
 exact ⟨rfl,by first | exact (Below.refl _ _).drew | exact HBN.out _⟩
set_option maxHeartbeats 4000000 in
set_option maxRecDepth 100000 in
theorem rfull_any (w:World) (hb q g cap:Nat) (ts:List Tk) (L:List Dl) (vE' vA vI vQ:Value) (sc:List OpF) (vS vE vR:Value) (P:PastF) (B:Nat) (TV VV:Nat→Value) (h:Wk w hb q g cap ts L vE' vA vI vQ sc vS vE vR P B TV VV) (l:Nat) (hl:l<(netR ts L).length) (st:Nat) (hst:st≤1000) (now:Int) :
  Calls Tryz.prog 49 #[.pointer (some ⟨hb,0,none⟩),.int .i64 (l:Int),.int .i64 (st:Int),.int .i64 now] w fun e w'=>e = .returned (.int .i64 ((takenF now l false P:Int)+(lateN (netR ts L) l:Int) - (st:Int)))∧Below w.heap.size w w':=by
 obtain ⟨r,x,hr,hrm,hx,hln,_,_,_⟩:=net_at hl
 have hlr:l<(routesR ts L).length:=by rw [← net_len];exact hl
 have hr':r=(routesR ts L)[l]'hlr:=by rw [List.getElem?_eq_getElem hlr] at hr;exact (Option.some.inj hr).symm
 have hlt:(b2i r.late:Int)=(lateN (netR ts L) l:Int):=by unfold lateN;rw [hln];cases r.late <;> rfl
 have hll:=lateN_le (netR ts L) l
 have htb:=takenF_le now l false P h.pst.tk
 have hfew:=h.pst.few
 have hle:=h.pst.le
 have htb2:takenF now l false P≤2440000:=by
  have:P.length * 6100≤400 * 6100:=Nat.mul_le_mul_right _ (by omega)
  omega
 obtain ⟨aR,cR,eR,hshR⟩:=own_shape h.rts
 obtain ⟨gR,rfl,_,hgR⟩:=hshR (by omega)
 have HT:=hide (rtaken_any w hb q sc vS vE vR P B TV VV h.pst l now false)
 have H:=hide h
 have HLN:=hide hlt
 generalize takenF now l false P=tk at *
 generalize lateN (netR ts L) l=lt at *
 have m1:IntKind.i64.wrap ((tk:Int)+(lt:Int))=(tk:Int)+(lt:Int):=by rw [IntKind.wrap_i64];omega
 have m2:IntKind.i64.wrap ((tk:Int)+(lt:Int) - (st:Int))=(tk:Int)+(lt:Int) - (st:Int):=by rw [IntKind.wrap_i64];omega
 have i1:(0:Int)≤(l:Int):=by omega
 have i2:(l:Int)<((routesR ts L).length:Int):=by omega
 clear h hln hr hrm hx hshR hlt
 go_enter Tryz.func49,Tryz.ntmps49
 go_wp2_with fail
 refine HT.out.mono ?_
 rintro e w1 ⟨rfl,hb1⟩
 have h1:=H.out.below hb1
 obtain ⟨y0,y1,y2,y3⟩:=h1.pst.at'.cells
 have hrt:=h1.rts
 rw [eR] at hrt y3
 obtain ⟨z0,z1,z2⟩:=rtAt_cells hrt hlr r hr'
 have HB1:=hide hb1
 have HN:=hide (rnumber_any w1 r.late)
 rw [HLN.out] at HN
 generalize r.late=rl at *
 clear h1 hrt hb1 HT y0 y1 y2 z0 z1
 go_wp2_with fail
 refine HN.out.mono ?_
 rintro e w2 ⟨rfl,hb2⟩
 have HB2:=hide (HB1.out.trans (hb2.mono HB1.out.size))
 clear hb2
 go_wp2
 go_ret
 exact ⟨rfl,HB2.out⟩
def wTook (N:List LnF) (P:PastF) (a:OpF) (l:Nat):List Nat:=(List.range l).filter (canF N P a)
def wRdy (N:List LnF) (P:PastF) (a:OpF) (l:Nat):Bool:=decide (didF P a.k 1 a.a false=didF P a.k 2 a.a false) && (List.range l).all fun l=>!decide ((lnAt N l).dst=a.k) || decide ((if canF N P a l then 1 else slotF N P a l)=1)
def wFre (N:List LnF) (P:PastF) (a:OpF) (l:Nat):Bool:=decide (didF P a.k 2 a.a false<didF P a.k 1 a.a false) && (List.range l).all fun l=>!decide ((lnAt N l).src=a.k) || decide (takenF a.a l true P=didF P a.k 2 a.a false)
theorem wTook_succ (N:List LnF) (P:PastF) (a:OpF) (l:Nat):wTook N P a (l+1)=wTook N P a l ++ (if canF N P a l then [l] else []):=by
 unfold wTook
 rw [List.range_succ,List.filter_append]
 congr 1
 cases h:canF N P a l <;> simp [List.filter,h]
theorem wRdy_succ (N:List LnF) (P:PastF) (a:OpF) (l:Nat):wRdy N P a (l+1)=(wRdy N P a l && (!decide ((lnAt N l).dst=a.k) || decide ((if canF N P a l then 1 else slotF N P a l)=1))):=by
 unfold wRdy
 rw [List.range_succ,List.all_append,Bool.and_assoc]
 simp
theorem wFre_succ (N:List LnF) (P:PastF) (a:OpF) (l:Nat):wFre N P a (l+1)=(wFre N P a l && (!decide ((lnAt N l).src=a.k) || decide (takenF a.a l true P=didF P a.k 2 a.a false))):=by
 unfold wFre
 rw [List.range_succ,List.all_append,Bool.and_assoc]
 simp
theorem wTook_len (N:List LnF) (P:PastF) (a:OpF) (l:Nat):(wTook N P a l).length≤l:=by
 unfold wTook
 refine Nat.le_trans (List.length_filter_le _ _) ?_
 rw [List.length_range]
 exact Nat.le_refl _
theorem EvBox.set4 {w:World}{A:Nat}{k a d n:Int}{vT vV:Value} (h:EvBox w A k a d n vT vV) (v:Value):EvBox (w.setCell ⟨A,4,none⟩ v) A k a d n v vV:=(World.rowIs.set h 4 v).congr (fun i hi=>by
 have:i=0∨i=1∨i=2∨i=3∨i=4∨i=5:=by omega
 rcases this with rfl | rfl | rfl | rfl | rfl | rfl <;> rfl)
theorem EvBox.set5 {w:World}{A:Nat}{k a d n:Int}{vT vV:Value} (h:EvBox w A k a d n vT vV) (v:Value):EvBox (w.setCell ⟨A,5,none⟩ v) A k a d n vT v:=(World.rowIs.set h 5 v).congr (fun i hi=>by
 have:i=0∨i=1∨i=2∨i=3∨i=4∨i=5:=by omega
 rcases this with rfl | rfl | rfl | rfl | rfl | rfl <;> rfl)
theorem EvBox.set2 {w:World}{A:Nat}{k a d n:Int}{vT vV:Value} (h:EvBox w A k a d n vT vV) (x:Int):EvBox (w.setCell ⟨A,2,none⟩ (.int .i64 x)) A k a x n vT vV:=(World.rowIs.set h 2 _).congr (fun i hi=>by
 have:i=0∨i=1∨i=2∨i=3∨i=4∨i=5:=by omega
 rcases this with rfl | rfl | rfl | rfl | rfl | rfl <;> rfl)
theorem EvBox.set3 {w:World}{A:Nat}{k a d n:Int}{vT vV:Value} (h:EvBox w A k a d n vT vV) (x:Int):EvBox (w.setCell ⟨A,3,none⟩ (.int .i64 x)) A k a d x vT vV:=(World.rowIs.set h 3 _).congr (fun i hi=>by
 have:i=0∨i=1∨i=2∨i=3∨i=4∨i=5:=by omega
 rcases this with rfl | rfl | rfl | rfl | rfl | rfl <;> rfl)
theorem EvBox.cells {w:World}{A:Nat}{k a d n:Int}{vT vV:Value} (h:EvBox w A k a d n vT vV):w.cell? ⟨A,0,none⟩=some (.int .i64 k)∧w.cell? ⟨A,1,none⟩=some (.int .i64 a)∧w.cell? ⟨A,2,none⟩=some (.int .i64 d)∧w.cell? ⟨A,3,none⟩=some (.int .i64 n)∧w.cell? ⟨A,4,none⟩=some vT∧w.cell? ⟨A,5,none⟩=some vV:=
 ⟨h.cell (i:=0) (by omega),h.cell (i:=1) (by omega),h.cell (i:=2) (by omega),h.cell (i:=3) (by omega),h.cell (i:=4) (by omega),h.cell (i:=5) (by omega)⟩
structure WkI (w wr:World) (o:OpF) (T:List Nat) (vT:Value):Prop where
 box:EvBox wr (w.heap.size+2) o.k o.a 0 0 vT (.slice none 0 0)
 act:ActAt wr w.heap.size o
 res:EvBox wr (w.heap.size+1) 0 0 0 0 (.slice none 0 0) (.slice none 0 0)
 own:wr.ownsRow (w.heap.size+3) 3 1 vT T.length (pCells T)
 bel:Below w.heap.size w wr
 size:w.heap.size+3≤wr.heap.size
theorem WkI.below {w wr w':World}{o:OpF}{T:List Nat}{vT:Value} (h:WkI w wr o T vT) (hb:Below wr.heap.size wr w'):WkI w w' o T vT:=
 ⟨World.rowIs.of_block h.box (hb.block _ (World.rowIs.lt h.box)),World.rowIs.of_block h.act (hb.block _ (World.rowIs.lt h.act)),World.rowIs.of_block h.res (hb.block _ (World.rowIs.lt h.res)),bel_own h.own hb,h.bel.trans (hb.mono h.bel.size),Nat.le_trans h.size hb.size⟩
theorem WkI.grow {w wr w':World}{o:OpF}{T:List Nat}{vT:Value}{l gg cap:Nat}{ob:Obj} (h:WkI w wr o T vT) (hg:(wr.alloc ob).grownBy w' vT.ownBlock) (hown:w'.ownsRow (w.heap.size+3) 3 1 (.slice (some ⟨gg,0,none⟩) (T.length+1) cap) (T.length+1) (pCells T ++ [.int .i64 (l:Int)])) :
  WkI w (w'.setCell ⟨w.heap.size+2,4,none⟩ (.slice (some ⟨gg,0,none⟩) (T.length+1) cap)) o (T ++ [l]) (.slice (some ⟨gg,0,none⟩) (T.length+1) cap):=by
 have hsz:=hg.size
 simp at hsz
 have hne:∀ j,j<w.heap.size+3→some j≠vT.ownBlock:=fun j hj e=>by have:=ownBlock_ge h.own j e.symm;omega
 have hs:=h.size
 have hblk:∀ j,j<w.heap.size+3→w'.heap[j]? = wr.heap[j]?:=fun j hj=>(hg.block j (by simp;omega) (hne j hj)).trans (heap_alloc_old wr _ (by omega))
 have hgg:w.heap.size+3≤gg:=ownBlock_ge hown gg rfl
 refine ⟨EvBox.set4 (World.rowIs.of_block h.box (hblk _ (by omega))) _,World.rowIs.setOther (World.rowIs.of_block h.act (hblk _ (by omega))) (a:=⟨w.heap.size+2,4,none⟩) (by show w.heap.size≠w.heap.size+2;omega) _,World.rowIs.setOther (World.rowIs.of_block h.res (hblk _ (by omega))) (a:=⟨w.heap.size+2,4,none⟩) (by show w.heap.size+1≠w.heap.size+2;omega) _,?_,?_,?_⟩
 ·rw [List.length_append,List.length_singleton,pCells_snoc]
  exact own_same hown (fun j hj=>heap_setCell_other w' ⟨w.heap.size+2,4,none⟩ j _ (by
   have:=ownBlock_ge hown j hj
   show j≠w.heap.size+2
   omega))
 ·have h5:Below w.heap.size w w':=(h.bel.alloc (by omega) _).grown hg (by simp;omega) (fun j hj=>by have:=ownBlock_ge h.own j hj;omega)
  exact h5.setCell (by show w.heap.size≤w.heap.size+2;omega) _
 ·show w.heap.size+3≤(w'.setCell _ _).heap.size
  simp only [World.size_setCell]
  omega
end Go.Proofs.YtmndgoapkmhglabGreat
namespace Go.Proofs.YtmndgoapkmhglabGreat
open Go.RowKit
theorem EvBox.fill {w:World}{A:Nat}{k a d n:Int}{vT vV:Value} (h:EvBox w A k a d n vT vV) (k' a' d' n':Int) (vT' vV':Value):EvBox ((((((w.setCell ⟨A,0,none⟩ (.int .i64 k')).setCell ⟨A,1,none⟩ (.int .i64 a')).setCell ⟨A,2,none⟩ (.int .i64 d')).setCell ⟨A,3,none⟩ (.int .i64 n')).setCell ⟨A,4,none⟩ vT').setCell ⟨A,5,none⟩ vV') A k' a' d' n' vT' vV':=by
 have h0:=World.rowIs.set h 0 (.int .i64 k')
 have h1:=World.rowIs.set h0 1 (.int .i64 a')
 have h2:=World.rowIs.set h1 2 (.int .i64 d')
 have h3:=World.rowIs.set h2 3 (.int .i64 n')
 have h4:=World.rowIs.set h3 4 vT'
 have h5:=World.rowIs.set h4 5 vV'
 refine h5.congr (fun i hi=>?_)
 have:i=0∨i=1∨i=2∨i=3∨i=4∨i=5:=by omega
 rcases this with rfl | rfl | rfl | rfl | rfl | rfl <;> rfl
theorem fill_other (w:World) (A b:Nat) (hb:b≠A) (x0 x1 x2 x3 x4 x5:Value):((((((w.setCell ⟨A,0,none⟩ x0).setCell ⟨A,1,none⟩ x1).setCell ⟨A,2,none⟩ x2).setCell ⟨A,3,none⟩ x3).setCell ⟨A,4,none⟩ x4).setCell ⟨A,5,none⟩ x5).heap[b]? = w.heap[b]?:=by
 rw [heap_setCell_other _ ⟨A,5,none⟩ b _ hb,heap_setCell_other _ ⟨A,4,none⟩ b _ hb,heap_setCell_other _ ⟨A,3,none⟩ b _ hb,heap_setCell_other _ ⟨A,2,none⟩ b _ hb,heap_setCell_other _ ⟨A,1,none⟩ b _ hb,heap_setCell_other _ ⟨A,0,none⟩ b _ hb]
structure WkZ (w wr:World) (o:OpF) (d n:Int) (T:List Nat) (vT:Value) (X:List Int) (vV:Value):Prop where
 box:EvBox wr (w.heap.size+2) o.k o.a d n vT vV
 act:ActAt wr w.heap.size o
 res:EvBox wr (w.heap.size+1) 0 0 0 0 (.slice none 0 0) (.slice none 0 0)
 ownT:wr.ownsRow (w.heap.size+3) 3 1 vT T.length (pCells T)
 ownV:wr.ownsRow (w.heap.size+3) 3 1 vV X.length (iCells X)
 ne:∀ b,vT.ownBlock=some b→vV.ownBlock≠some b
 bel:Below w.heap.size w wr
 size:w.heap.size+3≤wr.heap.size
theorem WkI.toZ {w wr:World}{o:OpF}{T:List Nat}{vT:Value} (h:WkI w wr o T vT):WkZ w wr o 0 0 T vT [] (.slice none 0 0):=
 ⟨h.box,h.act,h.res,h.own,World.ownsRow_nil _ _ _ _,fun b _ e=>by simp [Value.ownBlock] at e,h.bel,h.size⟩
theorem WkZ.below {w wr w':World}{o:OpF}{d n:Int}{T:List Nat}{vT:Value}{X:List Int}{vV:Value} (h:WkZ w wr o d n T vT X vV) (hb:Below wr.heap.size wr w'):WkZ w w' o d n T vT X vV:=
 ⟨World.rowIs.of_block h.box (hb.block _ (World.rowIs.lt h.box)),World.rowIs.of_block h.act (hb.block _ (World.rowIs.lt h.act)),World.rowIs.of_block h.res (hb.block _ (World.rowIs.lt h.res)),bel_own h.ownT hb,bel_own h.ownV hb,h.ne,h.bel.trans (hb.mono h.bel.size),Nat.le_trans h.size hb.size⟩
theorem WkZ.set {w wr:World}{o:OpF}{d n:Int}{T:List Nat}{vT:Value}{X:List Int}{vV:Value} (h:WkZ w wr o d n T vT X vV) (d' n':Int):WkZ w ((wr.setCell ⟨w.heap.size+2,2,none⟩ (.int .i64 d')).setCell ⟨w.heap.size+2,3,none⟩ (.int .i64 n')) o d' n' T vT X vV:=by
 have hk:∀ b,w.heap.size+3≤b→((wr.setCell ⟨w.heap.size+2,2,none⟩ (.int .i64 d')).setCell ⟨w.heap.size+2,3,none⟩ (.int .i64 n')).heap[b]? = wr.heap[b]?:=fun b hb=>by
  rw [heap_setCell_other _ ⟨w.heap.size+2,3,none⟩ b _ (by show b≠w.heap.size+2;omega),heap_setCell_other _ ⟨w.heap.size+2,2,none⟩ b _ (by show b≠w.heap.size+2;omega)]
 refine ⟨(h.box.set2 d').set3 n',World.rowIs.setOther (World.rowIs.setOther h.act (a:=⟨w.heap.size+2,2,none⟩) (by show w.heap.size≠w.heap.size+2;omega) _) (a:=⟨w.heap.size+2,3,none⟩) (by show w.heap.size≠w.heap.size+2;omega) _,World.rowIs.setOther (World.rowIs.setOther h.res (a:=⟨w.heap.size+2,2,none⟩) (by show w.heap.size+1≠w.heap.size+2;omega) _) (a:=⟨w.heap.size+2,3,none⟩) (by show w.heap.size+1≠w.heap.size+2;omega) _,own_same h.ownT (fun b hb=>hk b (ownBlock_ge h.ownT b hb)),own_same h.ownV (fun b hb=>hk b (ownBlock_ge h.ownV b hb)),h.ne,(h.bel.setCell (by show w.heap.size≤w.heap.size+2;omega) _).setCell (by show w.heap.size≤w.heap.size+2;omega) _,by simpa using h.size⟩
theorem iCells_more (l:List Int) (x:Int):iCells (l ++ [x])=iCells l ++ [.int .i64 x]:=by simp [iCells]
theorem WkZ.grow {w wr w':World}{o:OpF}{d n:Int}{T:List Nat}{vT:Value}{X:List Int}{vV:Value}{x:Int}{gg cap:Nat}{ob:Obj} (h:WkZ w wr o d n T vT X vV) (hg:(wr.alloc ob).drew.grownBy w' vV.ownBlock) (hown:w'.ownsRow (w.heap.size+3) 3 1 (.slice (some ⟨gg,0,none⟩) (X.length+1) cap) (X.length+1) (iCells X ++ [.int .i64 x])) (hat:vV.ownBlock=some gg∨gg=wr.heap.size+1) :
  WkZ w (w'.setCell ⟨w.heap.size+2,5,none⟩ (.slice (some ⟨gg,0,none⟩) (X.length+1) cap)) o d n T vT (X ++ [x]) (.slice (some ⟨gg,0,none⟩) (X.length+1) cap):=by
 have hsz:=hg.size
 simp at hsz
 have hne:∀ j,j<w.heap.size+3→some j≠vV.ownBlock:=fun j hj e=>by have:=ownBlock_ge h.ownV j e.symm;omega
 have hs:=h.size
 have hold:∀ j,j<wr.heap.size→some j≠vV.ownBlock→w'.heap[j]? = wr.heap[j]?:=fun j hj h1=>(hg.block j (by simp;omega) h1).trans (heap_alloc_old wr _ hj)
 have hblk:∀ j,j<w.heap.size+3→w'.heap[j]? = wr.heap[j]?:=fun j hj=>hold j (by omega) (hne j hj)
 have hgg:w.heap.size+3≤gg:=ownBlock_ge hown gg rfl
 refine ⟨EvBox.set5 (World.rowIs.of_block h.box (hblk _ (by omega))) _,World.rowIs.setOther (World.rowIs.of_block h.act (hblk _ (by omega))) (a:=⟨w.heap.size+2,5,none⟩) (by show w.heap.size≠w.heap.size+2;omega) _,World.rowIs.setOther (World.rowIs.of_block h.res (hblk _ (by omega))) (a:=⟨w.heap.size+2,5,none⟩) (by show w.heap.size+1≠w.heap.size+2;omega) _,?_,?_,fun b hb e=>?_,?_,?_⟩
 ·refine own_same h.ownT (fun j hj=>?_)
  have h3:=ownBlock_ge h.ownT j hj
  rw [heap_setCell_other w' ⟨w.heap.size+2,5,none⟩ j _ (by show j≠w.heap.size+2;omega)]
  exact hold j (h.ownT.lt j hj).2 (fun e=>h.ne j hj e.symm)
 ·rw [List.length_append,List.length_singleton,iCells_more]
  exact own_same hown (fun j hj=>heap_setCell_other w' ⟨w.heap.size+2,5,none⟩ j _ (by
   have:=ownBlock_ge hown j hj
   show j≠w.heap.size+2
   omega))
 ·have e':gg=b:=by simpa [Value.ownBlock] using e
  rcases hat with hat | hat
  ·exact h.ne b hb (by rw [hat,e'])
  ·have:=(h.ownT.lt b hb).2;omega
 ·have h5:Below w.heap.size w w':=((h.bel.alloc (by omega) _).drew).grown hg (by simp;omega) (fun j hj=>by have:=ownBlock_ge h.ownV j hj;omega)
  exact h5.setCell (by show w.heap.size≤w.heap.size+2;omega) _
 ·show w.heap.size+3≤(w'.setCell _ _).heap.size
  simp only [World.size_setCell]
  omega
theorem WkZ.out {w wr:World}{o:OpF}{d n:Int}{T:List Nat}{vT:Value}{X:List Int}{vV:Value} (h:WkZ w wr o d n T vT X vV) (x0 x1 x2 x3 x4 x5:Value) :
  (((((((wr.setCell ⟨w.heap.size+1,0,none⟩ x0).setCell ⟨w.heap.size+1,1,none⟩ x1).setCell ⟨w.heap.size+1,2,none⟩ x2).setCell ⟨w.heap.size+1,3,none⟩ x3).setCell ⟨w.heap.size+1,4,none⟩ x4).setCell ⟨w.heap.size+1,5,none⟩ x5).ownsRow w.heap.size 3 1 vT T.length (pCells T)∧
  ((((((wr.setCell ⟨w.heap.size+1,0,none⟩ x0).setCell ⟨w.heap.size+1,1,none⟩ x1).setCell ⟨w.heap.size+1,2,none⟩ x2).setCell ⟨w.heap.size+1,3,none⟩ x3).setCell ⟨w.heap.size+1,4,none⟩ x4).setCell ⟨w.heap.size+1,5,none⟩ x5).ownsRow w.heap.size 3 1 vV X.length (iCells X)∧
  Below w.heap.size w ((((((wr.setCell ⟨w.heap.size+1,0,none⟩ x0).setCell ⟨w.heap.size+1,1,none⟩ x1).setCell ⟨w.heap.size+1,2,none⟩ x2).setCell ⟨w.heap.size+1,3,none⟩ x3).setCell ⟨w.heap.size+1,4,none⟩ x4).setCell ⟨w.heap.size+1,5,none⟩ x5)):=by
 refine ⟨own_weak (own_same h.ownT (fun b hb=>fill_other wr _ b (by have:=ownBlock_ge h.ownT b hb;omega) _ _ _ _ _ _)) (by omega),own_weak (own_same h.ownV (fun b hb=>fill_other wr _ b (by have:=ownBlock_ge h.ownV b hb;omega) _ _ _ _ _ _)) (by omega),?_⟩
 exact (((((h.bel.setCell (by show w.heap.size≤w.heap.size+1;omega) _).setCell (by show w.heap.size≤w.heap.size+1;omega) _).setCell (by show w.heap.size≤w.heap.size+1;omega) _).setCell (by show w.heap.size≤w.heap.size+1;omega) _).setCell (by show w.heap.size≤w.heap.size+1;omega) _).setCell (by show w.heap.size≤w.heap.size+1;omega) _
end Go.Proofs.YtmndgoapkmhglabGreat
