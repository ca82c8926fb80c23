import Derived.Test.YtmndgoapkmhglaaGreatM15JudJ
import Derived.Test.YtmndgoapkmhglaaGreatM32RefP
import Derived.Test.YtmndgoapkmhglaaGreatM41CdA
namespace Go.Proofs.YtmndgoapkmhglaaGreat
open Go.RowKit
attribute [local go_sem ↓] Go.wp_at_zero Go.wp_at_succ
theorem routeTo_len (ts:List Tk) (L:List Dl) (b:Nat) (x:Dl):∀ k,(routeTo ts L b x k).length≤k:=by
 intro k
 induction k with
 | zero=>simp [routeTo]
 | succ k ih=>simp only [routeTo,List.length_append,routeAt];split <;> simp <;> omega
theorem uses_in {ts:List Tk}{L:List Dl} (ho:ROk ts L) (nm:List UInt8) (pl:Nat):∀ k∈usesR ts L nm pl,5≤k∧k<ts.length:=by
 intro k hk
 unfold usesR at hk
 rw [List.mem_flatMap] at hk
 obtain ⟨x,hx,hk⟩:=hk
 obtain ⟨_,_,_,hl,_⟩:=ho.eq hx
 split at hk
 ·unfold useOf at hk
  have:=(List.mem_filter.1 hk).1
  rw [List.mem_range'_1] at this
  omega
 ·simp at hk
theorem flat_le {α:Type}{f:α→List Nat} (n:Nat):∀ (l:List α),(∀ a∈l,(f a).length≤n)→(l.flatMap f).length≤l.length * n:=by
 intro l
 induction l with
 | nil=>intro _;simp
 | cons a l ih=>
  intro h
  rw [List.flatMap_cons,List.length_append,List.length_cons,Nat.succ_mul]
  have:=h a (List.mem_cons_self ..)
  have:=ih (fun b hb=>h b (List.mem_cons_of_mem _ hb))
  omega
theorem uses_le {ts:List Tk}{L:List Dl} (ho:ROk ts L) (nm:List UInt8) (pl:Nat):(usesR ts L nm pl).length≤1501 * 1501:=by
 have h1:=flat_le (f:=fun x=>if placeD ts x=pl then useOf ts x nm else []) 1501 (eqL L) (fun x hx=>usesL_len ts nm pl x (by have:=(ho.eq hx).2.2.2.1;have:=ho.len;omega))
 have h2:(eqL L).length * 1501≤1501 * 1501:=Nat.mul_le_mul_right _ ho.many.2.1
 exact Nat.le_trans h1 h2
theorem all_take_succ {α:Type} (p:α→Bool) (l:List α) (m:Nat) (h:m<l.length):(l.take (m+1)).all p=((l.take m).all p && p (l[m]'h)):=by
 rw [List.take_succ_eq_append_getElem h,List.all_append];simp
set_option maxHeartbeats 2000000 in
set_option maxRecDepth 100000 in
theorem rroutes_any (w:World) (q g cap:Nat) (ts:List Tk) (L:List Dl) (vE vA vI vQ:Value) (h:RProg w q g cap ts L vE vA vI vQ) (ho:ROk ts L) :
  Calls Tryz.prog 54 #[.pointer (some ⟨q,0,none⟩)] w fun e w'=>∃ v,e = .returned v∧w'.ownsRow w.heap.size 111 3 v (routesR ts L).length (rtCells (routesR ts L))∧(routesR ts L).length≤6100∧Below w.heap.size w w':=by
 obtain ⟨i0,hi0,hz0,hz1,hz2⟩:=info_parts Tryz.infoRoute
 obtain ⟨hm1,hm2,hm3⟩:=ho.many
 obtain ⟨av,cv,rfl,hsh⟩:=own_shape h.eqs
 have hlen:=ho.len
 have HR:=hide h
 have HO:=hide ho
 have HSH:=hide hsh
 clear h ho hsh
 go_enter Tryz.func54,Tryz.ntmps54
 go_wp2
 go_loopw [3,4] (fun v vi wr=>∃ (m:Nat) (acc:List Rt),m≤(eqL L).length∧vi = .int .i64 m∧acc ++ routesFrom ts L m ((eqL L).drop m)=routesR ts L∧acc.length≤m * 4∧wr.ownsRow w.heap.size 111 3 v acc.length (rtCells acc)∧Below w.heap.size w wr) (fun _ vi _=>(eqL L).length - (intOf vi).toNat)
 case atStart=>exact ⟨0,[],Nat.zero_le _,rfl,rfl,by simp,World.ownsRow_nil _ _ _ _,Below.refl _ _⟩
 case round=>
  obtain ⟨m,acc,hm,rfl,hrec,hal,hown,hbel⟩:=hrel
  have c4:=(HR.out.below hbel).c4
  have HOW:=hide hown
  have HRC:=hide hrec
  have hbs:=hbel.size
  clear hrec hown
  by_cases hml:m<(eqL L).length
  ·obtain ⟨gq,rfl,_,hgq2⟩:=HSH.out (by omega)
   obtain ⟨x,hx⟩:∃ x,x=(eqL L)[m]'hml:=⟨_,rfl⟩
   obtain ⟨hxm,hxk,_,_,hxp⟩:=HO.out.eq (x:=x) (by rw [hx];exact List.getElem_mem hml)
   obtain ⟨_,_,e3⟩:=rdc_truth ts hxk
   have e4:=(rdc_tok ts x).2
   have HCE:Hid (∀ W,Below w.heap.size w W→W.cell? ⟨gq,m * 6,none⟩=some (.string (nameD ts x))∧W.cell? ⟨gq,m * 6+4,none⟩=some (.int .i64 (placeD ts x:Nat))):=hide (fun W hW=>by
    obtain ⟨y0,_,_,_,y4,_⟩:=rd_later HR.out.eqs hW hgq2 hml (rdc ts x) (by rw [hx])
    rw [e4] at y0
    rw [e3] at y4
    exact ⟨y0,y4⟩)
   have HST:Hid (acc ++ (routeTo ts L m x 4 ++ routesFrom ts L (m+1) ((eqL L).drop (m+1)))=routesR ts L):=hide (by
    rw [← HRC.out,List.drop_eq_getElem_cons hml,← hx];rfl)
   have j3:(0:Int)≤(m:Int):=by omega
   have j4:(m:Int)<((eqL L).length:Int):=by omega
   clear hx hxm hxk e3 e4 HRC
   go_wp2
   go_loopw [3,5] (fun v vq wx=>∃ k:Nat,k≤4∧vq = .int .i64 k∧wx.ownsRow w.heap.size 111 3 v (acc ++ routeTo ts L m x k).length (rtCells (acc ++ routeTo ts L m x k))∧Below w.heap.size w wx) (fun _ vq _=>4 - (intOf vq).toNat)
   case atStart=>exact ⟨0,Nat.zero_le _,rfl,by simpa [routeTo] using HOW.out,hbel⟩
   case round=>
    clear c4 hbel HOW
    obtain ⟨k,hk,rfl,hownx,hbx⟩:=hrel
    have HOX:=hide hownx
    have HBX:=hide hbx
    have hrl:=routeTo_len ts L m x k
    have hbsx:=hbx.size
    clear hownx
    by_cases hk4:k<4
    ·have c4:=(HR.out.below hbx).c4
     obtain ⟨y0,y4⟩:=HCE.out wr hbx
     have HRP:=hide (HR.out.below hbx)
     have z1:(k:Int)<4:=by omega
     have HRT:Hid (routeTo ts L m x (k+1)=routeTo ts L m x k ++ routeAt ts L m x k):=hide rfl
     have HUI:=hide (uses_in HO.out (nameD ts x).data.toList k)
     have hul:=uses_le HO.out (nameD ts x).data.toList k
     have HCALL:=hide (fun W hW=>ruses_any W q g cap ts L vE vA vI (.slice (some ⟨gq,0,none⟩) (eqL L).length cv) hW HO.out (nameD ts x) k)
     have HRA:Hid (routeAt ts L m x k=if usesR ts L (nameD ts x).data.toList k≠[]∧k≠placeD ts x then [⟨m,k,lateR ts (usesR ts L (nameD ts x).data.toList k)⟩] else []):=hide rfl
     generalize usesR ts L (nameD ts x).data.toList k=u at HUI HCALL HRA hul
     generalize nameD ts x=nm at y0 HCALL
     go_wp2_with fail
     refine (HCALL.out wr HRP.out).mono ?_
     rintro e w2 ⟨vu,rfl,hou,hb2⟩
     obtain ⟨au,cu,rfl,hshu⟩:=own_shape hou
     have hbw2:Below w.heap.size w w2:=hbx.trans (hb2.mono hbx.size)
     have hbs2:=hbw2.size
     have c4':=(HR.out.below hbw2).c4
     have y4':=(HCE.out w2 hbw2).2
     have HO2:=hide (bel_own HOX.out hb2)
     have HOU:=hide (And.intro hou hshu)
     clear hou hshu hb2 HCALL HOX y0 y4 c4 hbx HBX HRP
     by_cases hpl:k=placeD ts x
     ·have q1:((k:Int) == ((placeD ts x:Nat):Int))=true:=by rw [← hpl];simp
      have HF:Hid (routeTo ts L m x (k+1)=routeTo ts L m x k):=hide (by rw [HRT.out,HRA.out,if_neg (fun h=>h.2 hpl),List.append_nil])
      clear hpl HRT HRA
      go_wp2
      go_roundw
      case rel=>exact ⟨k+1,by omega,by go_num,by rw [HF.out];first | exact HO2.out | exact bel_own HO2.out (below_drewN (Below.refl _ _) _),by first | exact hbw2 | exact below_drewN hbw2 _⟩
      case measure=>simp [intOf];omega
     ·have q1:((k:Int) == ((placeD ts x:Nat):Int))=false:=by rw [beq_eq_false_iff_ne];omega
      by_cases hue:u=[]
      ·have q2:((u.length:Int) == 0)=true:=by rw [hue];rfl
       have HF:Hid (routeTo ts L m x (k+1)=routeTo ts L m x k):=hide (by rw [HRT.out,HRA.out,if_neg (fun h=>h.1 hue),List.append_nil])
       clear hpl HRT HRA hue
       go_wp2
       go_roundw
       case rel=>exact ⟨k+1,by omega,by go_num,by rw [HF.out];first | exact HO2.out | exact bel_own HO2.out (below_drewN (Below.refl _ _) _),by first | exact hbw2 | exact below_drewN hbw2 _⟩
       case measure=>simp [intOf];omega
      ·have hup:0<u.length:=List.length_pos_iff.2 hue
       have q2:((u.length:Int) == 0)=false:=by rw [beq_eq_false_iff_ne];omega
       have HF:Hid (routeTo ts L m x (k+1)=routeTo ts L m x k ++ [⟨m,k,lateR ts u⟩]):=hide (by rw [HRT.out,HRA.out,if_pos ⟨hue,hpl⟩])
       obtain ⟨gu,rfl,_,hgu⟩:=HOU.out.2 hup
       clear hpl HRT HRA hue
       go_wp2
       go_loopw [7,8] (fun vl vk wx=>∃ j:Nat,j≤u.length∧vk = .int .i64 j∧vl = .bool (lateR ts (u.take j))∧Below w2.heap.size w2 wx) (fun _ vk _=>u.length - (intOf vk).toNat)
       case atStart=>exact ⟨0,Nat.zero_le _,rfl,by simp [lateR],by first | exact Below.refl _ _ | exact below_drewN (Below.refl _ _) _⟩
       case round=>
        obtain ⟨j,hj,rfl,rfl,hbx⟩:=hrel
        have hbwx:Below w.heap.size w wr:=hbw2.trans (hbx.mono hbw2.size)
        have hbsx2:=hbwx.size
        have c0:=(HR.out.below hbwx).c0
        by_cases hjl:j<u.length
        ·obtain ⟨uj,huj⟩:∃ uj,uj=u[j]'hjl:=⟨_,rfl⟩
         obtain ⟨h5,hul2⟩:=HUI.out uj (by rw [huj];exact List.getElem_mem hjl)
         have l1:wr.cell? ⟨gu,j,none⟩=some (.int .i64 (uj:Int)):=by
          rw [hbx.cell (p:=⟨gu,j,none⟩) hgu,HOU.out.1.cellAt j (by omega)]
          unfold pCells
          rw [List.getElem?_map,List.getElem?_eq_getElem hjl,← huj];rfl
         obtain ⟨p1,hp1⟩:∃ p1,uj=p1+1:=⟨uj - 1,by omega⟩
         obtain ⟨a,ha⟩:∃ a,a=rtok (tkAt ts p1):=⟨_,rfl⟩
         have x1:=(HR.out.toks.cells hbwx (show p1<ts.length by omega) a ha).2.1
         have hkw:=(HO.out.F p1).kw kFby (by decide)
         rw [← ha] at hkw
         have hls:lateR ts (u.take (j+1))=(lateR ts (u.take j) && (lAt ts p1 == kFby)):=by
          unfold lateR;rw [all_take_succ _ _ _ hjl,← huj,hp1];rfl
         have HLS:=hide hls
         rw [hp1] at l1
         have l1':wr.cell? ⟨gu,j,none⟩=some (.int .i64 ((p1:Int)+1)):=l1
         have d1:(0:Int)≤(p1:Int):=by omega
         have d2:(p1:Int)<(ts.length:Int):=by omega
         have d3:(0:Int)≤(j:Int):=by omega
         have d4:(j:Int)<(u.length:Int):=by omega
         have hp15:(p1:Int)≤1501:=by omega
         generalize lateR ts (u.take j)=lt at HLS ⊢
         clear hls huj l1 ha h5 hul2 hp1
         cases lt
         ·have HL2:Hid (lateR ts (u.take (j+1))=false):=hide (by rw [HLS.out];rfl)
          clear HLS hkw
          go_wp2_with fail
          go_quiet (fail)
          go_wp2
          go_roundw
          case rel=>exact ⟨j+1,by omega,by go_num,by rw [HL2.out],by first | exact hbx | exact below_drewN hbx _⟩
          case measure=>simp [intOf];omega
         ·by_cases hf:a.l=kFby
          ·have q3:=str_yes (t:=a.word) hf
           simp only [kFby] at q3
           have HL2:Hid (lateR ts (u.take (j+1))=true):=hide (by rw [HLS.out,show lAt ts p1=kFby from hkw.1 hf];rfl)
           clear HLS hkw hf
           go_wp2_with fail
           go_quiet (fail)
           go_wp2
           go_roundw
           case rel=>exact ⟨j+1,by omega,by go_num,by rw [HL2.out],by first | exact hbx | exact below_drewN hbx _⟩
           case measure=>simp [intOf];omega
          ·have q3:=str_no (t:=a.word) hf
           simp only [kFby] at q3
           have HL2:Hid (lateR ts (u.take (j+1))=false):=hide (by rw [HLS.out,beq_eq_false_iff_ne.2 (fun e=>hf (hkw.2 e))];rfl)
           clear HLS hkw hf
           go_wp2_with fail
           go_quiet (fail)
           go_wp2
           go_roundw
           case rel=>exact ⟨j+1,by omega,by go_num,by rw [HL2.out],by first | exact hbx | exact below_drewN hbx _⟩
           case measure=>simp [intOf];omega
        ·have ej:j=u.length:=by omega
         subst ej
         rw [List.take_length]
         have z2:¬ (u.length:Int)<(u.length:Int):=by omega
         have hown4:=bel_own HO2.out hbx
         generalize lateR ts u=lt at HF ⊢
         generalize hRT:routeTo ts L m x k=rt at HF hown4 hrl
         clear hRT
         have hal2:(acc ++ rt).length≤6100:=by rw [List.length_append];omega
         go_wp2_with (at_builtin;refine wpList_append_lies _ rfl _ _ _ rfl w.heap.size 111 i0 _ 3 24 Tryz.underlying100 hi0 hz0 hz1 hz2 rfl (by omega) _ (acc ++ rt).length (rtCells (acc ++ rt)) rfl (hown4.alloc _) ⟨wr.heap.size,0,none⟩ 1 1 [.int .i64 (m:Int),.int .i64 (k:Int),.bool lt] rfl rfl (World.news_of_block (cs:=#[.int .i64 (m:Int),.int .i64 (k:Int),.bool lt]) (t:=111) (fr:=(0,0)) (heap_alloc_new wr _)) (by simp [Value.oneCell']) (by omega) (by unfold maxLen;omega) (by omega) (by simp;omega) (wr.heap.size+1) (by simp) ?_;intro g3 cap3 w3 hown3 hgrow hat hlt3)
         go_roundw
         case rel=>
          refine ⟨k+1,by omega,by go_num,?_,?_⟩
          ·rw [HF.out,← List.append_assoc,rtCells_snoc,List.length_append,List.length_append]
           rw [List.length_append] at hown3
           exact hown3
          ·exact (hbwx.alloc hbwx.size _).grown hgrow (by simp;omega) (fun j hj=>ownBlock_ge hown4 j hj)
         case measure=>simp [intOf];omega
    ·have ek:k=4:=by omega
     subst ek
     have z1:¬ ((4:Nat):Int)<4:=by omega
     go_wp2
     go_roundw
     case rel=>exact ⟨m+1,acc ++ routeTo ts L m x 4,by omega,by go_num,by rw [List.append_assoc];exact HST.out,by rw [List.length_append,Nat.succ_mul];omega,HOX.out,hbx⟩
     case measure=>simp [intOf];omega
  ·have em:m=(eqL L).length:=by omega
   subst em
   have z1:¬ ((eqL L).length:Int)<((eqL L).length:Int):=by omega
   have hu:=HRC.out
   rw [List.drop_length] at hu
   have hu2:acc=routesR ts L:=by rw [← hu];simp [routesFrom]
   have HU2:=hide hu2
   clear hu hu2 HRC
   go_wp2
   go_ret
   exact ⟨_,rfl,by rw [← HU2.out];exact HOW.out,by rw [← HU2.out];omega,hbel⟩
theorem routes_in {ts:List Tk}{L:List Dl}:∀ (l:List Dl) (b:Nat),∀ r∈routesFrom ts L b l,r.src<b+l.length∧r.dst<4:=by
 have hto:∀ b x k,∀ r∈routeTo ts L b x k,r.src=b∧r.dst<k:=by
  intro b x k
  induction k with
  | zero=>intro r hr;simp [routeTo] at hr
  | succ k ih=>
   intro r hr
   simp only [routeTo,List.mem_append] at hr
   rcases hr with hr | hr
   ·have:=ih r hr;exact ⟨this.1,by omega⟩
   ·unfold routeAt at hr
    split at hr
    ·simp at hr;subst hr;exact ⟨rfl,Nat.lt_succ_self _⟩
    ·simp at hr
 intro l
 induction l with
 | nil=>intro b r hr;simp [routesFrom] at hr
 | cons x l ih=>
  intro b r hr
  simp only [routesFrom,List.mem_append] at hr
  rw [List.length_cons]
  rcases hr with hr | hr
  ·have:=hto b x 4 r hr;exact ⟨by omega,this.2⟩
  ·have:=ih (b+1) r hr;exact ⟨by omega,this.2⟩
theorem rt_later {w wr:World}{B g cap:Nat}{l:List Rt} (h:w.ownsRow B 111 3 (.slice (some ⟨g,0,none⟩) l.length cap) l.length (rtCells l)) (hb:wr.heap[g]? = w.heap[g]?) {k:Nat} (hk:k<l.length) (r:Rt) (hr:r=l[k]'hk) :
  wr.cell? ⟨g,k * 3,none⟩=some (.int .i64 (r.src:Int))∧wr.cell? ⟨g,k * 3+1,none⟩=some (.int .i64 (r.dst:Int))∧wr.cell? ⟨g,k * 3+2,none⟩=some (.bool r.late):=by
 have hcr:∀ j,j<3→wr.cell? ⟨g,k * 3+j,none⟩=r.cells[j]?:=fun j hj=>by
  rw [World.cell?_of_block (w:=w) (a:=⟨g,k * 3+j,none⟩) hb,h.cellAt (k * 3+j) (by omega)]
  have e:=flat_get Rt.cells 3 rt_len l k j hk hj
  rw [← hr] at e
  exact e
 exact ⟨hcr 0 (by omega),hcr 1 (by omega),hcr 2 (by omega)⟩
set_option maxHeartbeats 2000000 in
set_option maxRecDepth 100000 in
theorem rwaits_any (w:World) (q g cap:Nat) (ts:List Tk) (L:List Dl) (vE vA vI vQ:Value) (h:RProg w q g cap ts L vE vA vI vQ) (ho:ROk ts L) :
  Calls Tryz.prog 77 #[.pointer (some ⟨q,0,none⟩)] w fun e w'=>∃ (g2 cap2:Nat) (R:Nat→Nat),e = .returned (.slice (some ⟨g2,0,none⟩) 4 cap2)∧Mat w' g2 4 R (waitsP ((eqL L).map (placeD ts)) (routesR ts L) noM)∧(∀ i,i<4→w.heap.size≤R i)∧w.heap.size≤g2∧Below w.heap.size w w':=by
 obtain ⟨hm1,hm2,hm3⟩:=ho.many
 obtain ⟨av,cv,rfl,hsh⟩:=own_shape h.eqs
 have HR:=hide h
 have HO:=hide ho
 have HSH:=hide hsh
 clear h ho hsh
 go_enter Tryz.func77,Tryz.ntmps77
 go_wp2_with fail
 refine (rsquare_any w 4 (by omega)).mono ?_
 rintro e w1 ⟨v,rs,rfl,hrl,hown,hrows,hnd,hb1⟩
 obtain ⟨a,g2,cap2,R,rfl,hag,hmat,hRB,hg2⟩:=square_mat hrl hown hrows hnd
 have hag':=hag (by omega)
 subst hag'
 have HRB:=hide hRB
 have HM1:=hide hmat
 have HRP1:=hide (HR.out.below hb1)
 clear hrl hown hrows hnd hag hmat hRB
 go_wp2_with fail
 refine (rroutes_any w1 q g cap ts L _ _ _ _ HRP1.out HO.out).mono ?_
 rintro e2 w2 ⟨vl,rfl,hol,hll,hb2⟩
 obtain ⟨al,cl,rfl,hshl⟩:=own_shape hol
 have hin:=routes_in (ts:=ts) (L:=L) (eqL L) 0
 have hbw2:Below w.heap.size w w2:=hb1.trans (hb2.mono hb1.size)
 have HM2:Hid (Mat w2 g2 4 R noM):=hide (HM1.out.keep (hb2.block g2 (HM1.out.lt (by omega))) (fun i hi=>hb2.block (R i) (World.rowIs.lt (HM1.out.rows i hi))))
 have HNE:Hid (∀ gl,al=some ⟨gl,0,none⟩→0<(routesR ts L).length→gl<w2.heap.size∧∀ i,i<4→R i≠gl):=hide (fun gl hgl hp=>by
  obtain ⟨gg,e1,h1,h2⟩:=hshl hp
  rw [e1] at hgl
  cases hgl
  exact ⟨h2,fun i hi=>by have:=World.rowIs.lt (HM1.out.rows i hi);omega⟩)
 have HIN:Hid (∀ r∈routesR ts L,r.src<(eqL L).length∧r.dst<4):=hide (fun r hr=>by have:=hin r hr;exact ⟨by omega,this.2⟩)
 have HOL:=hide (And.intro hol hshl)
 generalize hRS:routesR ts L=rsl at HNE HIN HOL hll
 have HRS:=hide hRS
 clear hin hol hshl hb1 hb2 HM1 HRP1 hRS
 go_wp2
 go_loopw [5] (fun vi wx=>∃ (m:Nat) (M:Mx),m≤rsl.length∧vi = .int .i64 m∧Mat wx g2 4 R M∧Below w.heap.size w wx∧(∀ gl,al=some ⟨gl,0,none⟩→0<rsl.length→wx.heap[gl]? = w2.heap[gl]?)∧waitsP ((eqL L).map (placeD ts)) (rsl.drop m) M=waitsP ((eqL L).map (placeD ts)) rsl noM) (fun vi _=>rsl.length - (intOf vi).toNat)
 case atStart=>exact ⟨0,noM,Nat.zero_le _,rfl,HM2.out,hbw2,fun _ _ _=>rfl,rfl⟩
 case round=>
  clear HM2 hbw2
  obtain ⟨m,M,hm,rfl,hmat,hbel,hkeep,hrec⟩:=hrel
  by_cases hml:m<rsl.length
  ·obtain ⟨gl,rfl,_,hgl⟩:=HOL.out.2 (by omega)
   obtain ⟨r,hr⟩:∃ r,r=rsl[m]'hml:=⟨_,rfl⟩
   obtain ⟨hs1,hd1⟩:=HIN.out r (by rw [hr];exact List.getElem_mem hml)
   obtain ⟨x0,x1,x2⟩:=rt_later HOL.out.1 (hkeep gl rfl (by omega)) hml r hr
   obtain ⟨gq,rfl,_,hgq2⟩:=HSH.out (by omega)
   obtain ⟨x,hx⟩:∃ x,x=(eqL L)[r.src]'hs1:=⟨_,rfl⟩
   obtain ⟨_,hxk,_,_,hxp⟩:=HO.out.eq (x:=x) (by rw [hx];exact List.getElem_mem hs1)
   have c4:=(HR.out.below hbel).c4
   have y4:=(rd_later HR.out.eqs hbel hgq2 hs1 (rdc ts x) (by rw [hx])).2.2.2.2.1
   rw [(rdc_truth ts hxk).2.2] at y4
   have hpl:((eqL L).map (placeD ts)).getD r.src 0=placeD ts x:=by
    rw [List.getD_eq_getElem?_getD,List.getElem?_map,List.getElem?_eq_getElem hs1,← hx];rfl
   rw [List.drop_eq_getElem_cons hml,← hr] at hrec
   simp only [waitsP] at hrec
   rw [hpl] at hrec
   have o1:=hmat.outer r.dst hd1
   have o2:=hmat.cell hd1 hxp
   have o3:=hmat.froz hd1 (placeD ts x)
   have HMAT:=hide hmat
   have HRC:=hide hrec
   have HKP:=hide hkeep
   have HBF:=hide (HRB.out r.dst hd1)
   have HNG:=hide ((HNE.out gl rfl (by omega)).2 r.dst hd1)
   obtain ⟨src,dst,late⟩:=r
   simp only at hs1 hd1 x0 x1 x2 o1 o2 o3 y4 hxp HRC HBF HNG
   generalize placeD ts x=pl at y4 o2 o3 HRC hxp
   have d1:(0:Int)≤(m:Int):=by omega
   have d2:(m:Int)<(rsl.length:Int):=by omega
   have d3:(0:Int)≤(src:Int):=by omega
   have d4:(src:Int)<((eqL L).length:Int):=by omega
   have d5:(0:Int)≤(dst:Int):=by omega
   have d6:(dst:Int)<4:=by omega
   have d7:(0:Int)≤(pl:Int):=by omega
   have d8:(pl:Int)<4:=by omega
   clear hr hx hxk hpl hrec hmat hkeep
   cases late
   ·have HN2:Hid (waitsP ((eqL L).map (placeD ts)) (rsl.drop (m+1)) (upd M dst pl true)=waitsP ((eqL L).map (placeD ts)) rsl noM):=hide (by rw [← HRC.out];simp)
    clear HRC
    go_wp2_with fail
    go_big_region
    go_wp2
    go_roundw
    case rel=>
     refine ⟨m+1,upd M dst pl true,by omega,by go_num,(HMAT.out.set hd1 pl true).drew,(hbel.setCell HBF.out _).drew,fun gl' hg' hp'=>?_,HN2.out⟩
     cases hg'
     exact (heap_setCell_other wr ⟨R dst,pl,none⟩ gl _ (Ne.symm HNG.out)).trans (HKP.out gl rfl hp')
    case measure=>simp [intOf];omega
   ·have HN2:Hid (waitsP ((eqL L).map (placeD ts)) (rsl.drop (m+1)) M=waitsP ((eqL L).map (placeD ts)) rsl noM):=hide (by rw [← HRC.out];simp)
    clear HRC
    go_wp2
    go_roundw
    case rel=>exact ⟨m+1,M,by omega,by go_num,HMAT.out,hbel,HKP.out,HN2.out⟩
    case measure=>simp [intOf];omega
  ·have em:m=rsl.length:=by omega
   subst em
   rw [List.drop_length] at hrec
   have HMM:Hid (Mat wr g2 4 R (waitsP ((eqL L).map (placeD ts)) rsl noM)):=hide (by rw [← hrec];exact hmat)
   have z1:¬ (rsl.length:Int)<(rsl.length:Int):=by omega
   clear hrec hmat hkeep
   go_wp2
   go_ret
   exact ⟨g2,⟨cap2,rfl⟩,R,by rw [HRS.out];exact HMM.out,HRB.out,hg2,hbel⟩
set_option maxHeartbeats 2000000 in
set_option maxRecDepth 100000 in
theorem rloop_any (w:World) (q g cap:Nat) (ts:List Tk) (L:List Dl) (vE vA vI vQ:Value) (h:RProg w q g cap ts L vE vA vI vQ) (ho:ROk ts L) :
  Calls Tryz.prog 46 #[.pointer (some ⟨q,0,none⟩)] w fun e w'=>e = .returned (optI (lpR ts L))∧Below w.heap.size w w':=by
 obtain ⟨hm1,hm2,hm3⟩:=ho.many
 obtain ⟨av,cv,rfl,hsh⟩:=own_shape h.eqs
 have HR:=hide h
 have HO:=hide ho
 have HSH:=hide hsh
 clear h ho hsh
 go_enter Tryz.func46,Tryz.ntmps46
 go_wp2_with fail
 refine (rwaits_any w q g cap ts L _ _ _ _ HR.out HO.out).mono ?_
 rintro e w1 ⟨g2,cap2,R,rfl,hmat,hRB,hg2,hb1⟩
 have HCY:Hid (firstP ts (warsh (waitsP ((eqL L).map (placeD ts)) (routesR ts L) noM) 4) ((eqL L).drop 0)=lpR ts L):=hide rfl
 generalize waitsP ((eqL L).map (placeD ts)) (routesR ts L) noM=WM at hmat HCY
 have HMR:=hide hmat
 have HRB:=hide hRB
 clear hmat hRB
 go_wp2_with fail
 refine (rcircles_any w1 (some ⟨g2,0,none⟩) g2 4 cap2 w.heap.size R WM HMR.out (fun _=>rfl) (by omega) hb1.size HRB.out).mono ?_
 rintro e2 w2 ⟨G,rfl,hG,hrow,hb2⟩
 have hbel2:Below w.heap.size w w2:=hb1.trans hb2
 generalize warsh WM 4=W at hrow HCY
 have c4'':=(HR.out.below hbel2).c4
 have HROW:=hide hrow
 clear hrow hb2 hb1 HMR
 go_wp2
 go_loopw [5] (fun i wx=>∃ m:Nat,m≤(eqL L).length∧i = .int .i64 m∧wx.rowIs G 4 4 (fun i=>.bool (W i i))∧Below w.heap.size w wx∧firstP ts W ((eqL L).drop m)=lpR ts L) (fun i _=>(eqL L).length - (intOf i).toNat)
 case atStart=>exact ⟨0,Nat.zero_le _,rfl,HROW.out,hbel2,HCY.out⟩
 case round=>
  clear HROW hbel2 c4'' HCY
  obtain ⟨m,hm,rfl,hrow,hbel,hrec⟩:=hrel
  have c4:=(HR.out.below hbel).c4
  by_cases hml:m<(eqL L).length
  ·obtain ⟨gq,rfl,_,hgq2⟩:=HSH.out (by omega)
   obtain ⟨x,hx⟩:∃ x,x=(eqL L)[m]'hml:=⟨_,rfl⟩
   obtain ⟨hxm,hxk,_,_,hxp⟩:=HO.out.eq (x:=x) (by rw [hx];exact List.getElem_mem hml)
   have ht:=HO.out.tok hxm
   have hpos:=rdc_pos ts x
   obtain ⟨y0,y1,y2,y3,y4,y5⟩:=rd_later HR.out.eqs hbel hgq2 hml (rdc ts x) (by rw [hx])
   have hdp:(rdc ts x).place=placeD ts x:=(rdc_truth ts hxk).2.2
   rw [List.drop_eq_getElem_cons hml,← hx] at hrec
   simp only [firstP] at hrec
   have r1:=hrow.cell hxp
   rw [← hdp] at hrec r1 hxp
   have HRC:=hide hrec
   have HRW:=hide hrow
   have HRP:=hide (HR.out.below hbel)
   have HPX:=hide hpos
   have HTX:=hide ht
   have j3:(0:Int)≤(m:Int):=by omega
   have j4:(m:Int)<((eqL L).length:Int):=by omega
   generalize rdc ts x=d at y0 y1 y2 y3 y4 y5 HPX HTX HRC r1 hxp
   have j5:(0:Int)≤(d.place:Int):=by omega
   have j6:(d.place:Int)<4:=by omega
   generalize W d.place d.place=b at r1 HRC
   clear hrec hrow hxm ht hx hpos hdp hxk
   cases b
   ·have HR2:Hid (firstP ts W ((eqL L).drop (m+1))=lpR ts L):=hide (by rw [← HRC.out];simp)
    clear HRC
    go_wp2
    go_roundw
    case rel=>exact ⟨m+1,by omega,by go_num,by first | exact HRW.out | exact HRW.out.of_block rfl,by first | exact hbel | exact below_drewN hbel _,HR2.out⟩
    case measure=>simp [intOf];omega
   ·have HR2:Hid (lpR ts L=some (posD ts x)):=hide (by rw [← HRC.out];simp)
    clear HRC
    go_wp2_with fail
    refine (rplace_any _ q g cap ts L _ _ _ _ HRP.out d HTX.out).mono ?_
    rintro e3 w3 ⟨rfl,hb3⟩
    rw [HPX.out]
    go_wp2
    go_ret
    exact ⟨by rw [HR2.out];rfl,hbel.trans (hb3.mono hbel.size)⟩
  ·have em:m=(eqL L).length:=by omega
   subst em
   rw [List.drop_length] at hrec
   have HRC:=hide hrec
   have z2:¬ ((eqL L).length:Int)<((eqL L).length:Int):=by omega
   clear hrec hrow
   go_wp2
   go_ret
   exact ⟨by rw [← HRC.out];rfl,hbel⟩
end Go.Proofs.YtmndgoapkmhglaaGreat
