import Derived.Test.YtmndgoapkmhglabGreatM14JudJ
import Derived.Test.YtmndgoapkmhglabGreatM26RefT
namespace Go.Proofs.YtmndgoapkmhglabGreat
open Go.RowKit
attribute [local go_sem ↓] Go.wp_at_zero Go.wp_at_succ
theorem routeTo_len (ts:List Tk) (L:List Dl) (b:Nat) (x:Dl):∀ k,(routeTo ts L b x k).length≤k:=by
 intro k
 induction k with
 | zero=>simp [routeTo]
 | succ k ih=>simp only [routeTo,List.length_append,routeAt];split <;> simp <;> omega
theorem uses_in {ts:List Tk}{L:List Dl} (ho:ROk ts L) (nm:List UInt8) (pl:Nat):∀ k∈usesR ts L nm pl,5≤k∧k<ts.length:=by
 intro k hk
 unfold usesR at hk
 rw [List.mem_flatMap] at hk
 obtain ⟨x,hx,hk⟩:=hk
 obtain ⟨_,_,_,hl,_⟩:=ho.eq hx
 split at hk
 ·unfold useOf at hk
  have:=(List.mem_filter.1 hk).1
  rw [List.mem_range'_1] at this
  omega
 ·simp at hk
theorem flat_le {α:Type}{f:α→List Nat} (n:Nat):∀ (l:List α),(∀ a∈l,(f a).length≤n)→(l.flatMap f).length≤l.length * n:=by
 intro l
 induction l with
 | nil=>intro _;simp
 | cons a l ih=>
  intro h
  rw [List.flatMap_cons,List.length_append,List.length_cons,Nat.succ_mul]
  have:=h a (List.mem_cons_self ..)
  have:=ih (fun b hb=>h b (List.mem_cons_of_mem _ hb))
  omega
theorem uses_le {ts:List Tk}{L:List Dl} (ho:ROk ts L) (nm:List UInt8) (pl:Nat):(usesR ts L nm pl).length≤1501 * 1501:=by
 have h1:=flat_le (f:=fun x=>if placeD ts x=pl then useOf ts x nm else []) 1501 (eqL L) (fun x hx=>usesL_len ts nm pl x (by have:=(ho.eq hx).2.2.2.1;have:=ho.len;omega))
 have h2:(eqL L).length * 1501≤1501 * 1501:=Nat.mul_le_mul_right _ ho.many.2.1
 exact Nat.le_trans h1 h2
theorem all_take_succ {α:Type} (p:α→Bool) (l:List α) (m:Nat) (h:m<l.length):(l.take (m+1)).all p=((l.take m).all p && p (l[m]'h)):=by
 rw [List.take_succ_eq_append_getElem h,List.all_append];simp
set_option maxHeartbeats 2000000 in
set_option maxRecDepth 100000 in
theorem rroutes_any (w:World) (q g cap:Nat) (ts:List Tk) (L:List Dl) (vE vA vI vQ:Value) (h:RProg w q g cap ts L vE vA vI vQ) (ho:ROk ts L) :
  Calls Tryz.prog 20 #[.pointer (some ⟨q,0,none⟩)] w fun e w'=>∃ v,e = .returned v∧w'.ownsRow w.heap.size 88 3 v (routesR ts L).length (rtCells (routesR ts L))∧(routesR ts L).length≤6100∧Below w.heap.size w w':=by
 obtain ⟨i0,hi0,hz0,hz1,hz2⟩:=info_parts Tryz.infoRoute
 obtain ⟨hm1,hm2,hm3⟩:=ho.many
 obtain ⟨av,cv,rfl,hsh⟩:=own_shape h.eqs
 have hlen:=ho.len
 have HR:=hide h
 have HO:=hide ho
 have HSH:=hide hsh
 clear h ho hsh
 go_enter Tryz.func20,Tryz.ntmps20
 go_wp2
 go_loopw [3,4] (fun v vi wr=>∃ (m:Nat) (acc:List Rt),m≤(eqL L).length∧vi = .int .i64 m∧acc ++ routesFrom ts L m ((eqL L).drop m)=routesR ts L∧acc.length≤m * 4∧wr.ownsRow w.heap.size 88 3 v acc.length (rtCells acc)∧Below w.heap.size w wr) (fun _ vi _=>(eqL L).length - (intOf vi).toNat)
 case atStart=>exact ⟨0,[],Nat.zero_le _,rfl,rfl,by simp,World.ownsRow_nil _ _ _ _,Below.refl _ _⟩
 case round=>
  obtain ⟨m,acc,hm,rfl,hrec,hal,hown,hbel⟩:=hrel
  have c4:=(HR.out.below hbel).c4
  have HOW:=hide hown
  have HRC:=hide hrec
  have hbs:=hbel.size
  clear hrec hown
  by_cases hml:m<(eqL L).length
  ·obtain ⟨gq,rfl,_,hgq2⟩:=HSH.out (by omega)
   obtain ⟨x,hx⟩:∃ x,x=(eqL L)[m]'hml:=⟨_,rfl⟩
   obtain ⟨hxm,hxk,_,_,hxp⟩:=HO.out.eq (x:=x) (by rw [hx];exact List.getElem_mem hml)
   obtain ⟨_,_,e3⟩:=rdc_truth ts hxk
   have e4:=(rdc_tok ts x).2
   have HCE:Hid (∀ W,Below w.heap.size w W→W.cell? ⟨gq,m * 6,none⟩=some (.string (nameD ts x))∧W.cell? ⟨gq,m * 6+4,none⟩=some (.int .i64 (placeD ts x:Nat))):=hide (fun W hW=>by
    obtain ⟨y0,_,_,_,y4,_⟩:=rd_later HR.out.eqs hW hgq2 hml (rdc ts x) (by rw [hx])
    rw [e4] at y0
    rw [e3] at y4
    exact ⟨y0,y4⟩)
   have HST:Hid (acc ++ (routeTo ts L m x 4 ++ routesFrom ts L (m+1) ((eqL L).drop (m+1)))=routesR ts L):=hide (by
    rw [← HRC.out,List.drop_eq_getElem_cons hml,← hx];rfl)
   have j3:(0:Int)≤(m:Int):=by omega
   have j4:(m:Int)<((eqL L).length:Int):=by omega
   clear hx hxm hxk e3 e4 HRC
   go_wp2
   go_loopw [3,5] (fun v vq wx=>∃ k:Nat,k≤4∧vq = .int .i64 k∧wx.ownsRow w.heap.size 88 3 v (acc ++ routeTo ts L m x k).length (rtCells (acc ++ routeTo ts L m x k))∧Below w.heap.size w wx) (fun _ vq _=>4 - (intOf vq).toNat)
   case atStart=>exact ⟨0,Nat.zero_le _,rfl,by simpa [routeTo] using HOW.out,hbel⟩
   case round=>
    clear c4 hbel HOW
    obtain ⟨k,hk,rfl,hownx,hbx⟩:=hrel
    have HOX:=hide hownx
    have HBX:=hide hbx
    have hrl:=routeTo_len ts L m x k
    have hbsx:=hbx.size
    clear hownx
    by_cases hk4:k<4
    ·have c4:=(HR.out.below hbx).c4
     obtain ⟨y0,y4⟩:=HCE.out wr hbx
     have HRP:=hide (HR.out.below hbx)
     have z1:(k:Int)<4:=by omega
     have HRT:Hid (routeTo ts L m x (k+1)=routeTo ts L m x k ++ routeAt ts L m x k):=hide rfl
     have HUI:=hide (uses_in HO.out (nameD ts x).data.toList k)
     have hul:=uses_le HO.out (nameD ts x).data.toList k
     have HCALL:=hide (fun W hW=>ruses_any W q g cap ts L vE vA vI (.slice (some ⟨gq,0,none⟩) (eqL L).length cv) hW HO.out (nameD ts x) k)
     have HRA:Hid (routeAt ts L m x k=if usesR ts L (nameD ts x).data.toList k≠[]∧k≠placeD ts x then [⟨m,k,lateR ts (usesR ts L (nameD ts x).data.toList k)⟩] else []):=hide rfl
     generalize usesR ts L (nameD ts x).data.toList k=u at HUI HCALL HRA hul
     generalize nameD ts x=nm at y0 HCALL
     go_wp2_with fail
     refine (HCALL.out wr HRP.out).mono ?_
     rintro e w2 ⟨vu,rfl,hou,hb2⟩
     obtain ⟨au,cu,rfl,hshu⟩:=own_shape hou
     have hbw2:Below w.heap.size w w2:=hbx.trans (hb2.mono hbx.size)
     have hbs2:=hbw2.size
     have c4':=(HR.out.below hbw2).c4
     have y4':=(HCE.out w2 hbw2).2
     have HO2:=hide (bel_own HOX.out hb2)
     have HOU:=hide (And.intro hou hshu)
     clear hou hshu hb2 HCALL HOX y0 y4 c4 hbx HBX HRP
     by_cases hpl:k=placeD ts x
     ·have q1:((k:Int) == ((placeD ts x:Nat):Int))=true:=by rw [← hpl];simp
      have HF:Hid (routeTo ts L m x (k+1)=routeTo ts L m x k):=hide (by rw [HRT.out,HRA.out,if_neg (fun h=>h.2 hpl),List.append_nil])
      clear hpl HRT HRA
      go_wp2
      go_roundw
      case rel=>exact ⟨k+1,by omega,by go_num,by rw [HF.out];first | exact HO2.out | exact bel_own HO2.out (below_drewN (Below.refl _ _) _),by first | exact hbw2 | exact below_drewN hbw2 _⟩
      case measure=>simp [intOf];omega
     ·have q1:((k:Int) == ((placeD ts x:Nat):Int))=false:=by rw [beq_eq_false_iff_ne];omega
      by_cases hue:u=[]
      ·have q2:((u.length:Int) == 0)=true:=by rw [hue];rfl
       have HF:Hid (routeTo ts L m x (k+1)=routeTo ts L m x k):=hide (by rw [HRT.out,HRA.out,if_neg (fun h=>h.1 hue),List.append_nil])
       clear hpl HRT HRA hue
       go_wp2
       go_roundw
       case rel=>exact ⟨k+1,by omega,by go_num,by rw [HF.out];first | exact HO2.out | exact bel_own HO2.out (below_drewN (Below.refl _ _) _),by first | exact hbw2 | exact below_drewN hbw2 _⟩
       case measure=>simp [intOf];omega
      ·have hup:0<u.length:=List.length_pos_iff.2 hue
       have q2:((u.length:Int) == 0)=false:=by rw [beq_eq_false_iff_ne];omega
       have HF:Hid (routeTo ts L m x (k+1)=routeTo ts L m x k ++ [⟨m,k,lateR ts u⟩]):=hide (by rw [HRT.out,HRA.out,if_pos ⟨hue,hpl⟩])
       obtain ⟨gu,rfl,_,hgu⟩:=HOU.out.2 hup
       clear hpl HRT HRA hue
       go_wp2
       go_loopw [7,8] (fun vl vk wx=>∃ j:Nat,j≤u.length∧vk = .int .i64 j∧vl = .bool (lateR ts (u.take j))∧Below w2.heap.size w2 wx) (fun _ vk _=>u.length - (intOf vk).toNat)
       case atStart=>exact ⟨0,Nat.zero_le _,rfl,by simp [lateR],by first | exact Below.refl _ _ | exact below_drewN (Below.refl _ _) _⟩
       case round=>
        obtain ⟨j,hj,rfl,rfl,hbx⟩:=hrel
        have hbwx:Below w.heap.size w wr:=hbw2.trans (hbx.mono hbw2.size)
        have hbsx2:=hbwx.size
        have c0:=(HR.out.below hbwx).c0
        by_cases hjl:j<u.length
        ·obtain ⟨uj,huj⟩:∃ uj,uj=u[j]'hjl:=⟨_,rfl⟩
         obtain ⟨h5,hul2⟩:=HUI.out uj (by rw [huj];exact List.getElem_mem hjl)
         have l1:wr.cell? ⟨gu,j,none⟩=some (.int .i64 (uj:Int)):=by
          rw [hbx.cell (p:=⟨gu,j,none⟩) hgu,HOU.out.1.cellAt j (by omega)]
          unfold pCells
          rw [List.getElem?_map,List.getElem?_eq_getElem hjl,← huj];rfl
         obtain ⟨p1,hp1⟩:∃ p1,uj=p1+1:=⟨uj - 1,by omega⟩
         obtain ⟨a,ha⟩:∃ a,a=rtok (tkAt ts p1):=⟨_,rfl⟩
         have x1:=(HR.out.toks.cells hbwx (show p1<ts.length by omega) a ha).2.1
         have hkw:=(HO.out.F p1).kw kFby (by decide)
         rw [← ha] at hkw
         have hls:lateR ts (u.take (j+1))=(lateR ts (u.take j) && (lAt ts p1 == kFby)):=by
          unfold lateR;rw [all_take_succ _ _ _ hjl,← huj,hp1];rfl
         have HLS:=hide hls
         rw [hp1] at l1
         have l1':wr.cell? ⟨gu,j,none⟩=some (.int .i64 ((p1:Int)+1)):=l1
         have d1:(0:Int)≤(p1:Int):=by omega
         have d2:(p1:Int)<(ts.length:Int):=by omega
         have d3:(0:Int)≤(j:Int):=by omega
         have d4:(j:Int)<(u.length:Int):=by omega
         have hp15:(p1:Int)≤1501:=by omega
         generalize lateR ts (u.take j)=lt at HLS ⊢
         clear hls huj l1 ha h5 hul2 hp1
         cases lt
         ·have HL2:Hid (lateR ts (u.take (j+1))=false):=hide (by rw [HLS.out];rfl)
          clear HLS hkw
          go_wp2_with fail
          go_quiet (fail)
          go_wp2
          go_roundw
          case rel=>exact ⟨j+1,by omega,by go_num,by rw [HL2.out],by first | exact hbx | exact below_drewN hbx _⟩
          case measure=>simp [intOf];omega
         ·by_cases hf:a.l=kFby
          ·have q3:=str_yes (t:=a.word) hf
           simp only [kFby] at q3
           have HL2:Hid (lateR ts (u.take (j+1))=true):=hide (by rw [HLS.out,show lAt ts p1=kFby from hkw.1 hf];rfl)
           clear HLS hkw hf
           go_wp2_with fail
           go_quiet (fail)
           go_wp2
           go_roundw
           case rel=>exact ⟨j+1,by omega,by go_num,by rw [HL2.out],by first | exact hbx | exact below_drewN hbx _⟩
           case measure=>simp [intOf];omega
          ·have q3:=str_no (t:=a.word) hf
           simp only [kFby] at q3
           have HL2:Hid (lateR ts (u.take (j+1))=false):=hide (by rw [HLS.out,beq_eq_false_iff_ne.2 (fun e=>hf (hkw.2 e))];rfl)
           clear HLS hkw hf
           go_wp2_with fail
           go_quiet (fail)
           go_wp2
           go_roundw
           case rel=>exact ⟨j+1,by omega,by go_num,by rw [HL2.out],by first | exact hbx | exact below_drewN hbx _⟩
           case measure=>simp [intOf];omega
        ·have ej:j=u.length:=by omega
         subst ej
         rw [List.take_length]
         have z2:¬ (u.length:Int)<(u.length:Int):=by omega
         have hown4:=bel_own HO2.out hbx
         generalize lateR ts u=lt at HF ⊢
         generalize hRT:routeTo ts L m x k=rt at HF hown4 hrl
         clear hRT
         have hal2:(acc ++ rt).length≤6100:=by rw [List.length_append];omega
         go_wp2_with (at_builtin;refine wpList_append_lies _ rfl _ _ _ rfl w.heap.size 88 i0 _ 3 24 Tryz.underlying64 hi0 hz0 hz1 hz2 rfl (by omega) _ (acc ++ rt).length (rtCells (acc ++ rt)) rfl (hown4.alloc _) ⟨wr.heap.size,0,none⟩ 1 1 [.int .i64 (m:Int),.int .i64 (k:Int),.bool lt] rfl rfl (World.news_of_block (cs:=#[.int .i64 (m:Int),.int .i64 (k:Int),.bool lt]) (t:=88) (fr:=(0,0)) (heap_alloc_new wr _)) (by simp [Value.oneCell']) (by omega) (by unfold maxLen;omega) (by omega) (by simp;omega) (wr.heap.size+1) (by simp) ?_;intro g3 cap3 w3 hown3 hgrow hat hlt3)
         go_roundw
         case rel=>
          refine ⟨k+1,by omega,by go_num,?_,?_⟩
          ·rw [HF.out,← List.append_assoc,rtCells_snoc,List.length_append,List.length_append]
           rw [List.length_append] at hown3
           exact hown3
          ·exact (hbwx.alloc hbwx.size _).grown hgrow (by simp;omega) (fun j hj=>ownBlock_ge hown4 j hj)
         case measure=>simp [intOf];omega
    ·have ek:k=4:=by omega
     subst ek
     have z1:¬ ((4:Nat):Int)<4:=by omega
     go_wp2
     go_roundw
     case rel=>exact ⟨m+1,acc ++ routeTo ts L m x 4,by omega,by go_num,by rw [List.append_assoc];exact HST.out,by rw [List.length_append,Nat.succ_mul];omega,HOX.out,hbx⟩
     case measure=>simp [intOf];omega
  ·have em:m=(eqL L).length:=by omega
   subst em
   have z1:¬ ((eqL L).length:Int)<((eqL L).length:Int):=by omega
   have hu:=HRC.out
   rw [List.drop_length] at hu
   have hu2:acc=routesR ts L:=by rw [← hu];simp [routesFrom]
   have HU2:=hide hu2
   clear hu hu2 HRC
   go_wp2
   go_ret
   exact ⟨_,rfl,by rw [← HU2.out];exact HOW.out,by rw [← HU2.out];omega,hbel⟩
end Go.Proofs.YtmndgoapkmhglabGreat
