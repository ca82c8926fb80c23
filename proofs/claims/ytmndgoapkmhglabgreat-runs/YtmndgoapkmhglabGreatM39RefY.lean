import Derived.Test.YtmndgoapkmhglabGreatM18RefF
import Derived.Test.YtmndgoapkmhglabGreatM22RefH
import Derived.Test.YtmndgoapkmhglabGreatM23RefK
import Derived.Test.YtmndgoapkmhglabGreatM26RefT
import Derived.Test.YtmndgoapkmhglabGreatM28RefW
import Derived.Test.YtmndgoapkmhglabGreatM31LawP
import Derived.Test.YtmndgoapkmhglabGreatM36RefX
namespace Go.Proofs.YtmndgoapkmhglabGreat
open Go.RowKit
attribute [local go_sem ↓] Go.wp_at_zero Go.wp_at_succ
set_option maxHeartbeats 2000000 in
set_option maxRecDepth 100000 in
theorem rcycle_any (w:World) (q g cap:Nat) (ts:List Tk) (L:List Dl) (vE vA vI vQ:Value) (h:RProg w q g cap ts L vE vA vI vQ) (ho:ROk ts L) :
  Calls Tryz.prog 41 #[.pointer (some ⟨q,0,none⟩)] w fun e w'=>e = .returned (optI (cycR ts L))∧Below w.heap.size w w':=by
 obtain ⟨hm1,hm2,hm3⟩:=ho.many
 obtain ⟨av,cv,rfl,hsh⟩:=own_shape h.eqs
 have c4:=h.c4
 have HR:=hide h
 have HO:=hide ho
 have HSH:=hide hsh
 clear h ho hsh
 go_enter Tryz.func41,Tryz.ntmps41
 go_wp2_with fail
 refine (rsquare_any w (eqL L).length hm2).mono ?_
 rintro e w1 ⟨v,rs,rfl,hrl,hown,hrows,hnd,hb1⟩
 obtain ⟨a,g2,cap2,R,rfl,hag,hmat,hRB,hg2⟩:=square_mat hrl hown hrows hnd
 have HAG:=hide hag
 have HRB:=hide hRB
 have HM1:=hide hmat
 have c4':=(HR.out.below hb1).c4
 clear hrl hown hrows hnd hag hmat hRB c4
 go_wp2
 -- the rows,marked as far as row k
 go_loopw [4] (fun i wr=>∃ (k:Nat) (M:Mx),k≤(eqL L).length∧i = .int .i64 k∧Mat wr g2 (eqL L).length R M∧Below w.heap.size w wr∧agree (eqL L).length M (fun i j=>if i<k then relR ts L i j else false)) (fun i _=>(eqL L).length - (intOf i).toNat)
 case atStart=>exact ⟨0,noM,Nat.zero_le _,rfl,HM1.out,hb1,fun i j _ _=>by simp [noM]⟩
 case round=>
  clear HM1 hb1 c4'
  obtain ⟨k,M,hk,rfl,hmat,hbel,hagr⟩:=hrel
  have c4:=(HR.out.below hbel).c4
  have HMAT:=hide hmat
  have HAGR:=hide hagr
  clear hmat hagr
  by_cases hlt:k<(eqL L).length
  ·have hag:=HAG.out (by omega)
   subst hag
   obtain ⟨gq,hgq,_,hgq2⟩:=HSH.out (by omega)
   subst hgq
   have j1:(0:Int)≤(k:Int):=by omega
   have j2:(k:Int)<((eqL L).length:Int):=by omega
   obtain ⟨x,hx⟩:∃ x,x=(eqL L)[k]'hlt:=⟨_,rfl⟩
   have HXM:Hid (x∈eqL L):=hide (by rw [hx];exact List.getElem_mem hlt)
   have HX:=hide hx
   clear hx
   go_wp2
   go_loopw [5] (fun i wr=>∃ (m:Nat) (M:Mx),m≤(eqL L).length∧i = .int .i64 m∧Mat wr g2 (eqL L).length R M∧Below w.heap.size w wr∧agree (eqL L).length M (fun i j=>if i<k∨(i=k∧j<m) then relR ts L i j else false)) (fun i _=>(eqL L).length - (intOf i).toNat)
   case atStart=>exact ⟨0,M,Nat.zero_le _,rfl,HMAT.out,hbel,fun i j hi hj=>by rw [HAGR.out i j hi hj];simp⟩
   case round=>
    clear HMAT HAGR c4 hbel
    obtain ⟨m,M2,hm,rfl,hmat,hbel,hagr⟩:=hrel
    have c4:=(HR.out.below hbel).c4
    by_cases hml:m<(eqL L).length
    ·have j3:(0:Int)≤(m:Int):=by omega
     have j4:(m:Int)<((eqL L).length:Int):=by omega
     obtain ⟨d,hd⟩:∃ d,d=rdc ts x:=⟨_,rfl⟩
     obtain ⟨y0,y1,y2,y3,y4,y5⟩:=rd_later HR.out.eqs hbel hgq2 hlt d (by rw [hd,HX.out])
     obtain ⟨z,hz⟩:∃ z,z=(eqL L)[m]'hml:=⟨_,rfl⟩
     obtain ⟨z0,_⟩:=rd_later HR.out.eqs hbel hgq2 hml (rdc ts z) (by rw [hz])
     rw [(rdc_tok ts z).2] at z0
     have o1:=hmat.outer k hlt
     have o2:=hmat.cell hlt hml
     have o3:=hmat.froz hlt m
     have HMAT:=hide hmat
     have HAGR:=hide hagr
     have HD:=hide hd
     have HREL:Hid (relR ts L k m=hangsR ts x (nameD ts z).data.toList):=hide (by unfold relR;rw [List.getElem?_eq_getElem hlt,List.getElem?_eq_getElem hml,← HX.out,← hz])
     generalize nameD ts z=nm at z0 HREL
     clear hmat hagr hd hz
     have HRP:=hide (HR.out.below hbel)
     have HBL:=hide hbel
     have HCALL:Hid (∀ W,RProg W q g cap ts L vE vA vI (.slice (some ⟨gq,0,none⟩) (eqL L).length cv)→Calls Tryz.prog 76 #[.pointer (some ⟨q,0,none⟩),.agg #[.string d.name,.int .i64 (d.tok:Int),.bool d.input,.bool d.truth,.int .i64 (d.place:Int),.int .i64 (d.body:Int)],.string nm] W fun e w'=>e = .returned (.bool (hangsR ts x nm.data.toList))∧Below W.heap.size W w'):=hide (fun W hW=>by
      have hd:=HD.out
      subst hd
      exact rhangs_any W q g cap ts L _ _ _ _ hW HO.out x HXM.out nm)
     have l1:=HRP.out.lt
     have l2:gq<wr.heap.size:=by have:=hbel.size;omega
     have l3:=HMAT.out.lt (show 0<(eqL L).length by omega)
     have l4:=World.rowIs.lt (HMAT.out.rows k hlt)
     generalize hangsR ts x nm.data.toList=hg at HREL HCALL
     have lk:=HRB.out k hlt
     have lq:=HR.out.lt
     have n1:R k≠q:=by omega
     have n2:R k≠gq:=by omega
     have n3:R k≠g2:=HMAT.out.ne k hlt
     have n1':q≠R k:=by omega
     have n2':gq≠R k:=by omega
     have n3':g2≠R k:=Ne.symm n3
     go_wp2_with fail
     go_region_held3 (fun w'=>w'.cell? ⟨q,4,none⟩=some (.slice (some ⟨gq,0,none⟩) (eqL L).length cv)∧w'.cell? ⟨gq,k * 6,none⟩=some (.string d.name)∧w'.cell? ⟨gq,k * 6+1,none⟩=some (.int .i64 (d.tok:Int))∧w'.cell? ⟨gq,k * 6+2,none⟩=some (.bool d.input)∧w'.cell? ⟨gq,k * 6+3,none⟩=some (.bool d.truth)∧w'.cell? ⟨gq,k * 6+4,none⟩=some (.int .i64 (d.place:Int))∧w'.cell? ⟨gq,k * 6+5,none⟩=some (.int .i64 (d.body:Int))∧w'.cell? ⟨gq,m * 6,none⟩=some (.string nm)∧w'.cell? ⟨g2,k,none⟩=some (.slice (some ⟨R k,0,none⟩) (eqL L).length (eqL L).length)) (first | go_keep | exact ⟨(World.cell?_setCell_other _ _ _ _ (fun e=>n1 (congrArg Addr.block e))).trans t0,(World.cell?_setCell_other _ _ _ _ (fun e=>n2 (congrArg Addr.block e))).trans t1,(World.cell?_setCell_other _ _ _ _ (fun e=>n2 (congrArg Addr.block e))).trans t2,(World.cell?_setCell_other _ _ _ _ (fun e=>n2 (congrArg Addr.block e))).trans t3,(World.cell?_setCell_other _ _ _ _ (fun e=>n2 (congrArg Addr.block e))).trans t4,(World.cell?_setCell_other _ _ _ _ (fun e=>n2 (congrArg Addr.block e))).trans t5,(World.cell?_setCell_other _ _ _ _ (fun e=>n2 (congrArg Addr.block e))).trans t6,(World.cell?_setCell_other _ _ _ _ (fun e=>n2 (congrArg Addr.block e))).trans t7,(World.cell?_setCell_other _ _ _ _ (fun e=>n3 (congrArg Addr.block e))).trans t8⟩)
      ((go_at_call 76;refine (HCALL.out _ (HRP.out.below ((Below.refl _ _).drew))).mono ?_;rintro e w2 ⟨rfl,hbF⟩;have t0:=(hbF.cell (p:=⟨q,4,none⟩) l1).trans c4;have t1:=(hbF.cell (p:=⟨gq,k * 6,none⟩) l2).trans y0;have t2:=(hbF.cell (p:=⟨gq,k * 6+1,none⟩) l2).trans y1;have t3:=(hbF.cell (p:=⟨gq,k * 6+2,none⟩) l2).trans y2;have t4:=(hbF.cell (p:=⟨gq,k * 6+3,none⟩) l2).trans y3;have t5:=(hbF.cell (p:=⟨gq,k * 6+4,none⟩) l2).trans y4;have t6:=(hbF.cell (p:=⟨gq,k * 6+5,none⟩) l2).trans y5;have t7:=(hbF.cell (p:=⟨gq,m * 6,none⟩) l2).trans z0;have t8:=(hbF.cell (p:=⟨g2,k,none⟩) l3).trans o1;have t9:=(hbF.cell (p:=⟨R k,m,none⟩) l4).trans o2;have tf:=(hbF.frozen (p:=⟨R k,m,none⟩) l4).trans o3))
     rename_i hHeld
     clear hHeld
     have HM2:Hid (Mat w2 g2 (eqL L).length R M2):=hide (HMAT.out.keep (hbF.block g2 l3) (fun i hi=>hbF.block (R i) (World.rowIs.lt (HMAT.out.rows i hi))))
     have HB2:Hid (Below w.heap.size w w2):=hide (HBL.out.drew.trans (hbF.mono HBL.out.size))
     clear hbF t0 t1 t2 t3 t4 t5 t6 t7 t8 t9 tf y0 y1 y2 y3 y4 y5 z0 o1 o2 o3 c4
     go_wp2
     go_roundw
     case rel=>
      refine ⟨m+1,upd M2 k m hg,by omega,by go_num,HM2.out.set hlt m hg,HB2.out.setCell lk _,fun i j hi hj=>?_⟩
      show upd M2 k m hg i j=if i<k∨(i=k∧j<m+1) then relR ts L i j else false
      unfold upd
      by_cases e:i=k∧j=m
      ·obtain ⟨rfl,rfl⟩:=e
       rw [if_pos ⟨rfl,rfl⟩,if_pos (by omega)];exact HREL.out.symm
      ·rw [if_neg e,HAGR.out i j hi hj]
       show (if i<k∨(i=k∧j<m) then relR ts L i j else false)=_
       by_cases e2:i<k∨(i=k∧j<m)
       ·rw [if_pos e2,if_pos (by omega)]
       ·rw [if_neg e2,if_neg (by omega)]
     case measure=>simp [intOf];omega
    ·have HMAT:=hide hmat
     have HAGR:=hide hagr
     clear hmat hagr
     go_wp2
     go_roundw
     case rel=>exact ⟨k+1,M2,by omega,by go_num,HMAT.out,hbel,fun i j hi hj=>by
      rw [HAGR.out i j hi hj]
      show (if i<k∨(i=k∧j<m) then relR ts L i j else false)=if i<k+1 then relR ts L i j else false
      by_cases e:i<k∨(i=k∧j<m)
      ·rw [if_pos e,if_pos (by omega)]
      ·rw [if_neg e,if_neg (by omega)]⟩
     case measure=>simp [intOf];omega
  ·have ek:k=(eqL L).length:=by omega
   subst ek
   have HMR:Hid (Mat wr g2 (eqL L).length R (relR ts L)):=hide (HMAT.out.congr (fun i j hi hj=>by rw [HAGR.out i j hi hj];show (if i<(eqL L).length then _ else _)=_;rw [if_pos hi]))
   have z1:¬ ((eqL L).length:Int)<((eqL L).length:Int):=by omega
   clear HMAT HAGR
   go_wp2_with fail
   refine (rcircles_any wr a g2 (eqL L).length cap2 w.heap.size R (relR ts L) HMR.out HAG.out hm2 hbel.size HRB.out).mono ?_
   rintro e2 w2 ⟨G,rfl,hG,hrow,hb2⟩
   have hbel2:Below w.heap.size w w2:=hbel.trans hb2
   have HCY:Hid (firstC ts (warsh (relR ts L) (eqL L).length) 0 ((eqL L).drop 0)=cycR ts L):=hide rfl
   generalize warsh (relR ts L) (eqL L).length=W at hrow HCY
   have c4'':=(HR.out.below hbel2).c4
   have HROW:=hide hrow
   clear hrow hb2 hbel c4 HMR
   go_wp2
   go_loopw [7] (fun i wx=>∃ m:Nat,m≤(eqL L).length∧i = .int .i64 m∧wx.rowIs G 4 (eqL L).length (fun i=>.bool (W i i))∧Below w.heap.size w wx∧firstC ts W m ((eqL L).drop m)=cycR ts L) (fun i _=>(eqL L).length - (intOf i).toNat)
   case atStart=>exact ⟨0,Nat.zero_le _,rfl,HROW.out,hbel2,HCY.out⟩
   case round=>
    clear HROW hbel2 c4'' HCY
    obtain ⟨m,hm,rfl,hrow,hbel,hrec⟩:=hrel
    have c4:=(HR.out.below hbel).c4
    by_cases hml:m<(eqL L).length
    ·obtain ⟨gq,hgq,_,hgq2⟩:=HSH.out (by omega)
     subst hgq
     obtain ⟨x,hx⟩:∃ x,x=(eqL L)[m]'hml:=⟨_,rfl⟩
     have hxm:x∈L:=(HO.out.eq (by rw [hx];exact List.getElem_mem hml)).1
     have ht:=HO.out.tok hxm
     have hpos:=rdc_pos ts x
     obtain ⟨y0,y1,y2,y3,y4,y5⟩:=rd_later HR.out.eqs hbel hgq2 hml (rdc ts x) (by rw [hx])
     rw [List.drop_eq_getElem_cons hml,← hx] at hrec
     simp only [firstC] at hrec
     have r1:=hrow.cell hml
     have HRC:=hide hrec
     have HRW:=hide hrow
     have HRP:=hide (HR.out.below hbel)
     have HPX:=hide hpos
     have HTX:=hide ht
     have j3:(0:Int)≤(m:Int):=by omega
     have j4:(m:Int)<((eqL L).length:Int):=by omega
     generalize rdc ts x=d at y0 y1 y2 y3 y4 y5 HPX HTX
     generalize W m m=b at r1 HRC
     clear hrec hrow hxm ht hx hpos
     cases b
     ·have HR2:Hid (firstC ts W (m+1) ((eqL L).drop (m+1))=cycR ts L):=hide (by rw [← HRC.out];simp)
      clear HRC
      go_wp2
      go_roundw
      case rel=>exact ⟨m+1,by omega,by go_num,HRW.out,hbel,HR2.out⟩
      case measure=>simp [intOf];omega
     ·have HR2:Hid (cycR ts L=some (posD ts x)):=hide (by rw [← HRC.out];simp)
      clear HRC
      go_wp2_with fail
      refine (rplace_any _ q g cap ts L _ _ _ _ HRP.out d HTX.out).mono ?_
      rintro e3 w3 ⟨rfl,hb3⟩
      rw [HPX.out]
      go_wp2
      go_ret
      exact ⟨by rw [HR2.out];rfl,hbel.trans (hb3.mono hbel.size)⟩
    ·have em:m=(eqL L).length:=by omega
     subst em
     rw [List.drop_length] at hrec
     have HRC:=hide hrec
     have z2:¬ ((eqL L).length:Int)<((eqL L).length:Int):=by omega
     clear hrec hrow
     go_wp2
     go_ret
     exact ⟨by rw [← HRC.out];rfl,hbel⟩
theorem RPV.prog {w':World}{B q g cap:Nat}{ts:List Tk}{L:List Dl}{R:Nat→Rw} (h:RPV w' B q (.slice (some ⟨g,0,none⟩) ts.length cap) R) (ht:TokAt w' g cap ts)
  (h1:(R 1).e=3∧(R 1).sz=1∧(R 1).n=ts.length∧(R 1).xs=pCells ((List.range ts.length).map (behindF ts)))
  (h2:(R 2).e=106∧(R 2).sz=6∧(R 2).n=L.length∧(R 2).xs=rdCells (L.map (rdc ts)))
  (h3:(R 3).e=106∧(R 3).sz=6∧(R 3).n=(inL L).length∧(R 3).xs=rdCells ((inL L).map (rdc ts)))
  (h4:(R 4).e=106∧(R 4).sz=6∧(R 4).n=(eqL L).length∧(R 4).xs=rdCells ((eqL L).map (rdc ts))) :
  RProg w' q g cap ts L (R 1).v (R 2).v (R 3).v (R 4).v:=by
 have o1:=own_zero (h.own 1)
 have o2:=own_zero (h.own 2)
 have o3:=own_zero (h.own 3)
 have o4:=own_zero (h.own 4)
 rw [h1.1,h1.2.1,h1.2.2.1,h1.2.2.2] at o1
 rw [h2.1,h2.2.1,h2.2.2.1,h2.2.2.2] at o2
 rw [h3.1,h3.2.1,h3.2.2.1,h3.2.2.2] at o3
 rw [h4.1,h4.2.1,h4.2.2.1,h4.2.2.2] at o4
 exact ⟨h.lt,cell_of_row w' q 0 _ _ _ h.blk,cell_of_row w' q 1 _ _ _ h.blk,cell_of_row w' q 2 _ _ _ h.blk,cell_of_row w' q 3 _ _ _ h.blk,cell_of_row w' q 4 _ _ _ h.blk,ht,o1,o2,o3,o4⟩
def ReadOk (s:ByteArray) (w:World) (p:Value) (w':World):Prop:=
 Below w.heap.size w w'∧((textF s).1=0→∃ (q g cap:Nat) (L:List Dl) (vE vA vI vQ:Value),p = .pointer (some ⟨q,0,none⟩)∧RProg w' q g cap (toks s) L vE vA vI vQ∧ROk (toks s) L∧RGood s L)
set_option maxHeartbeats 2000000 in
set_option maxRecDepth 100000 in
theorem rread_any (s:ByteArray) (w:World) :
  Calls Tryz.prog 18 #[.string s] w fun e w'=>∃ p,e = .returned (.tuple #[p,.int .i64 ((textF s).1:Int),.int .i64 ((textF s).2:Int)])∧ReadOk s w p w':=by
 by_cases hs:s.size≤1500
 case neg=>
  have ht:textF s=(1,0):=by unfold textF;rw [if_pos (by omega)]
  have HT:=hide ht
  have z1:(1500:Int)<(s.size:Int):=by omega
  clear ht
  go_enter Tryz.func18,Tryz.ntmps18
  go_wp2
  go_ret3
  exact ⟨_,by rw [HT.out];rfl,Below.refl _ _,fun h=>by rw [HT.out] at h;cases h⟩
 have z1:¬ (1500:Int)<(s.size:Int):=by omega
 have hok:=toks_ok s hs
 have hF:=toks_F s
 have hE:=toks_end s
 have hp:∀ i,(tkAt (toks s) i).pos≤1500:=fun i=>Nat.le_trans (pos_le s i) hs
 have HREF:=hide (text_read s hs)
 have HTS:=hide (fun W=>rtokens_any s W hs)
 have hrl:(rtoks s).length=(toks s).length:=by unfold rtoks;rw [List.length_map]
 have HFE:=hide (And.intro hF (And.intro hE (And.intro hp hok)))
 have HRL:=hide hrl
 clear hF hE hp hok hrl
 go_enter Tryz.func18,Tryz.ntmps18
 go_wp2_with fail
 refine (HTS.out w).mono ?_
 rintro e w1 ⟨v,rfl,hown,hb1⟩
 rw [HRL.out] at hown
 obtain ⟨g,cap,rfl,hg1,hg2⟩:=hown.form HFE.out.2.2.2.pos
 have HTK:Hid (TokAt w1 g cap (toks s)):=hide ⟨own_zero hown,hg2⟩
 clear hown HTS
 rcases HREF.out with ⟨k,hkl,ht,n,hans⟩ | ⟨L,hsp,⟨n,hans⟩,ht,hpar⟩
 ·have HT:=hide ht
  have HAN:=hide hans
  have hpk:=HFE.out.2.2.1 k
  generalize (tkAt (toks s) k).pos=ps at HT HAN hpk
  have z2:(0:Int)≤(ps:Int):=by omega
  clear ht hans HREF
  go_wp2_with fail
  refine (stands_any (toks s) n (ps:Int) w1 g cap HTK.out HFE.out.1 HFE.out.2.2.2.1 HAN.out).mono ?_
  rintro e2 w2 ⟨rfl,hb2⟩
  have HB:=hide (hb1.trans (hb2.mono hb1.size))
  clear hb1 hb2
  go_wp2
  go_ret3
  exact ⟨_,by rw [HT.out];rfl,HB.out,fun h=>by rw [HT.out] at h;cases h⟩
 ·have HT:=hide ht
  have HAN:=hide hans
  have HOK:Hid (ROk (toks s) L):=hide ⟨HFE.out.1,HFE.out.2.1,HFE.out.2.2.2.1,HFE.out.2.2.2.pos,hsp⟩
  have HSP:=hide hsp
  have HPAR:=hide hpar
  clear ht hans HREF hsp hpar
  go_wp2_with fail
  refine (stands_any (toks s) n (-1) w1 g cap HTK.out HFE.out.1 HFE.out.2.2.2.1 HAN.out).mono ?_
  rintro e2 w2 ⟨rfl,hb2⟩
  have hbw2:Below w.heap.size w w2:=hb1.trans (hb2.mono hb1.size)
  have HTK2:=hide (HTK.out.below hb2)
  clear hb1 hb2 HTK
  go_wp2_with fail
  refine (program_any (toks s) L w2 g cap HTK2.out HFE.out.1 HFE.out.2.1 HFE.out.2.2.2.1 HSP.out).mono ?_
  rintro e3 w3 ⟨rfl,R,hrp,r1,r2,r3,r4,hb3⟩
  have hbw3:Below w.heap.size w w3:=hbw2.trans (hb3.mono hbw2.size)
  have HRP:=hide (hrp.prog (HTK2.out.below hb3) r1 r2 r3 r4)
  generalize w2.heap.size=q at HRP ⊢
  generalize (R 1).v=vE at HRP
  generalize (R 2).v=vA at HRP
  generalize (R 3).v=vI at HRP
  generalize (R 4).v=vQ at HRP
  clear hrp r1 r2 r3 r4 hb3 hbw2 HTK2
  go_wp2_with fail
  refine (rmany_any w3 q g cap (toks s) L vE vA vI vQ HRP.out HOK.out HFE.out.2.2.1).mono ?_
  rintro e4 w4 ⟨rfl,hb4⟩
  have HRP4:=hide (HRP.out.below hb4)
  have hbw4:Below w.heap.size w w4:=hbw3.trans (hb4.mono hbw3.size)
  clear hb4 hbw3 HRP
  cases h1:manyR (toks s) L with
  | some a=>
   have HF:Hid (textF s=(3,a)):=hide (by rw [HT.out];unfold readR;rw [h1])
   simp only [optI]
   have z2:(0:Int)≤(a:Int):=by omega
   clear h1
   go_wp2
   go_ret3
   exact ⟨_,by rw [HF.out];rfl,hbw4,fun h=>by rw [HF.out] at h;cases h⟩
  | none=>
   have H1:=hide h1
   simp only [optI]
   clear h1
   go_wp2_with fail
   refine (rnames_any w4 q g cap (toks s) L vE vA vI vQ HRP4.out HOK.out HFE.out.2.2.1).mono ?_
   rintro e5 w5 ⟨rfl,hb5⟩
   have HRP5:=hide (HRP4.out.below hb5)
   have hbw5:Below w.heap.size w w5:=hbw4.trans (hb5.mono hbw4.size)
   clear hb5 hbw4 HRP4
   cases h2:namesR (toks s) L with
   | some a=>
    have HF:Hid (textF s=(4,a)):=hide (by rw [HT.out];unfold readR;rw [H1.out];simp only;rw [h2])
    simp only [optI]
    have z2:(0:Int)≤(a:Int):=by omega
    clear h2
    go_wp2
    go_ret3
    exact ⟨_,by rw [HF.out];rfl,hbw5,fun h=>by rw [HF.out] at h;cases h⟩
   | none=>
    have H2:=hide h2
    simp only [optI]
    clear h2
    go_wp2_with fail
    refine (rtypes_any w5 q g cap (toks s) L vE vA vI vQ HRP5.out HOK.out HFE.out.2.2.1).mono ?_
    rintro e6 w6 ⟨rfl,hb6⟩
    have HRP6:=hide (HRP5.out.below hb6)
    have hbw6:Below w.heap.size w w6:=hbw5.trans (hb6.mono hbw5.size)
    clear hb6 hbw5 HRP5
    cases h3:typesR (toks s) L with
    | some a=>
     have HF:Hid (textF s=(5,a)):=hide (by rw [HT.out];unfold readR;rw [H1.out];simp only;rw [H2.out];simp only;rw [h3])
     simp only [optI]
     have z2:(0:Int)≤(a:Int):=by omega
     clear h3
     go_wp2
     go_ret3
     exact ⟨_,by rw [HF.out];rfl,hbw6,fun h=>by rw [HF.out] at h;cases h⟩
    | none=>
     have H3:=hide h3
     simp only [optI]
     clear h3
     go_wp2_with fail
     refine (rcycle_any w6 q g cap (toks s) L vE vA vI vQ HRP6.out HOK.out).mono ?_
     rintro e7 w7 ⟨rfl,hb7⟩
     have HRP7:=hide (HRP6.out.below hb7)
     have hbw7:Below w.heap.size w w7:=hbw6.trans (hb7.mono hbw6.size)
     clear hb7 hbw6 HRP6
     cases h4:cycR (toks s) L with
     | some a=>
      have HF:Hid (textF s=(6,a)):=hide (by rw [HT.out];unfold readR;rw [H1.out];simp only;rw [H2.out];simp only;rw [H3.out];simp only;rw [h4])
      simp only [optI]
      have z2:(0:Int)≤(a:Int):=by omega
      clear h4
      go_wp2
      go_ret3
      exact ⟨_,by rw [HF.out];rfl,hbw7,fun h=>by rw [HF.out] at h;cases h⟩
     | none=>
      have H4:=hide h4
      simp only [optI]
      clear h4
      go_wp2_with fail
      refine (rloop_any w7 q g cap (toks s) L vE vA vI vQ HRP7.out HOK.out).mono ?_
      rintro e8 w8 ⟨rfl,hb8⟩
      have HRP8:=hide (HRP7.out.below hb8)
      have hbw8:Below w.heap.size w w8:=hbw7.trans (hb8.mono hbw7.size)
      clear hb8 hbw7 HRP7
      cases h5:lpR (toks s) L with
      | some a=>
       have HF:Hid (textF s=(7,a)):=hide (by rw [HT.out];unfold readR;rw [H1.out];simp only;rw [H2.out];simp only;rw [H3.out];simp only;rw [H4.out];simp only;rw [h5])
       simp only [optI]
       have z2:(0:Int)≤(a:Int):=by omega
       clear h5
       go_wp2
       go_ret3
       exact ⟨_,by rw [HF.out];rfl,hbw8,fun h=>by rw [HF.out] at h;cases h⟩
      | none=>
       have HF:Hid (textF s=(0,0)):=hide (by rw [HT.out];unfold readR;rw [H1.out];simp only;rw [H2.out];simp only;rw [H3.out];simp only;rw [H4.out];simp only;rw [h5])
       have H5:=hide h5
       simp only [optI]
       clear h5
       go_wp2
       go_ret3
       exact ⟨_,by rw [HF.out];rfl,hbw8,fun _=>⟨q,g,cap,L,vE,vA,vI,vQ,rfl,HRP8.out,HOK.out,⟨H1.out,H2.out,H3.out,H4.out,H5.out,HSP.out,HPAR.out⟩⟩⟩
end Go.Proofs.YtmndgoapkmhglabGreat
