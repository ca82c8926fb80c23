import Derived.Test.YtmndgoapkmhglabGreatM23RefK
import Derived.Test.YtmndgoapkmhglabGreatM24RefR
import Derived.Test.YtmndgoapkmhglabGreatM25RefS
namespace Go.Proofs.YtmndgoapkmhglabGreat
open Go.RowKit
attribute [local go_sem ↓] Go.wp_at_zero Go.wp_at_succ
theorem any_range {p:Nat→Bool} (n k:Nat) (h:k<n):(List.range' k (n - k)).any p=(p k || (List.range' (k+1) (n - (k+1))).any p):=by
 rw [show n - k=(n - (k+1))+1 by omega,List.range'_succ,List.any_cons]
set_option maxHeartbeats 1000000 in
theorem rdelayed_any (w:World) (q g cap:Nat) (ts:List Tk) (L:List Dl) (vE vA vI vQ:Value) (h:RProg w q g cap ts L vE vA vI vQ) (ho:ROk ts L) (fr j:Nat) (hfj:fr≤j) (hj:j<ts.length) :
  Calls Tryz.prog 100 #[.pointer (some ⟨q,0,none⟩),.int .i64 (fr:Int),.int .i64 (j:Int)] w fun e w'=>e = .returned (.bool (delayedR ts fr j))∧Below w.heap.size w w':=by
 have hlen:=ho.len
 obtain ⟨gE,capE,rfl,_,hgE⟩:=h.ends.form (by omega)
 have HR:=hide h
 have HO:=hide ho
 clear h ho
 go_enter Tryz.func100,Tryz.ntmps100
 go_wp2
 go_loopw [7] (fun f wr=>∃ k:Nat,k≤j∧f = .int .i64 k∧Below w.heap.size w wr∧((List.range' k (j - k)).any fun f=>lAt ts f == kFby && decide (j<behindF ts (f+1)))=delayedR ts fr j) (fun f _=>j - (intOf f).toNat)
 case atStart=>exact ⟨fr,hfj,rfl,Below.refl _ _,rfl⟩
 case round=>
  obtain ⟨k,hk,rfl,hbel,hrec⟩:=hrel
  have c0:=(HR.out.below hbel).c0
  have c1:=(HR.out.below hbel).c1
  by_cases hlt:k<j
  ·obtain ⟨a,ha⟩:∃ a,a=rtok (tkAt ts k):=⟨_,rfl⟩
   obtain ⟨x0,x1,x2,x3⟩:=HR.out.toks.cells hbel (show k<ts.length by omega) a ha
   have hkw:=(HO.out.F k).kw kFby (by decide)
   rw [← ha] at hkw
   have r1:=end_later HR.out.ends hbel hgE (show k+1<ts.length by omega)
   have j1:(0:Int)≤(k:Int):=by omega
   have j2:(k:Int)<(ts.length:Int):=by omega
   have j3:(0:Int)≤(k:Int)+1:=by omega
   have j4:(k:Int)+1<(ts.length:Int):=by omega
   have j5:(k:Int)<(j:Int):=by omega
   have hbl:=behindF_le ts (k+1) (by omega)
   rw [any_range _ _ hlt] at hrec
   generalize behindF ts (k+1)=b at r1 hrec hbl
   by_cases hf:a.l=kFby
   ·have q1:=str_yes (t:=a.word) hf
    simp only [kFby] at q1
    have hl:(lAt ts k == kFby)=true:=by rw [beq_iff_eq];exact hkw.1 hf
    rw [hl,Bool.true_and] at hrec
    by_cases hb:j<b
    ·have q2:(j:Int)<(b:Int):=by omega
     rw [decide_eq_true hb,Bool.true_or] at hrec
     have HRC:=hide hrec
     clear hrec hl hf hb hkw ha
     go_wp2
     go_ret
     exact ⟨by rw [← HRC.out];rfl,by first | exact hbel | exact below_drewN hbel _⟩
    ·have q2:¬ (j:Int)<(b:Int):=by omega
     rw [decide_eq_false hb,Bool.false_or] at hrec
     have HRC:=hide hrec
     clear hrec hl hf hb hkw ha
     go_wp2
     go_roundw
     case rel=>exact ⟨k+1,by omega,by go_num,by first | exact hbel | exact below_drewN hbel _,HRC.out⟩
     case measure=>simp [intOf];omega
   ·have q1:=str_no (t:=a.word) hf
    simp only [kFby] at q1
    have hl:(lAt ts k == kFby)=false:=by rw [beq_eq_false_iff_ne];exact fun e=>hf (hkw.2 e)
    rw [hl,Bool.false_and,Bool.false_or] at hrec
    have HRC:=hide hrec
    clear hrec hl hf hkw ha
    go_wp2
    go_roundw
    case rel=>exact ⟨k+1,by omega,by go_num,by first | exact hbel | exact below_drewN hbel _,HRC.out⟩
    case measure=>simp [intOf];omega
  ·have e0:j - k=0:=by omega
   rw [e0] at hrec
   have HRC:=hide hrec
   have z1:¬ (k:Int)<(j:Int):=by omega
   clear hrec e0
   go_wp2
   go_ret
   exact ⟨by rw [← HRC.out];rfl,hbel⟩
def usesL (ts:List Tk) (nm:List UInt8) (pl:Nat) (l:List Dl):List Nat:=l.flatMap fun x=>if placeD ts x=pl then useOf ts x nm else []
theorem usesL_len (ts:List Tk) (nm:List UInt8) (pl:Nat) (x:Dl) (h:x.t.len≤1501):(if placeD ts x=pl then useOf ts x nm else []).length≤1501:=by
 split
 ·unfold useOf
  have:=List.length_filter_le (fun j=>isNm ts j && lAt ts j == nm) (List.range' (x.i+5) x.t.len)
  rw [List.length_range'] at this
  omega
 ·simp
set_option maxHeartbeats 2000000 in
set_option maxRecDepth 100000 in
theorem ruses_any (w:World) (q g cap:Nat) (ts:List Tk) (L:List Dl) (vE vA vI vQ:Value) (h:RProg w q g cap ts L vE vA vI vQ) (ho:ROk ts L) (name:ByteArray) (pl:Nat) :
  Calls Tryz.prog 45 #[.pointer (some ⟨q,0,none⟩),.string name,.int .i64 (pl:Int)] w fun e w'=>∃ v,e = .returned v∧w'.ownsRow w.heap.size 3 1 v (usesR ts L name.data.toList pl).length (pCells (usesR ts L name.data.toList pl))∧Below w.heap.size w w':=by
 obtain ⟨i0,hi0,hz0,hz1,hz2⟩:=info_parts Tryz.infoInt
 obtain ⟨hm1,hm2,hm3⟩:=ho.many
 obtain ⟨av,cv,rfl,hsh⟩:=own_shape h.eqs
 have hlen:=ho.len
 have hpos:=ho.pos
 obtain ⟨gE,capE,rfl,_,hgE⟩:=h.ends.form (by omega)
 have HR:=hide h
 have HO:=hide ho
 have HSH:=hide hsh
 have HU:Hid ([] ++ usesL ts name.data.toList pl ((eqL L).drop 0)=usesR ts L name.data.toList pl):=hide rfl
 clear h ho hsh
 go_enter Tryz.func45,Tryz.ntmps45
 go_wp2
 go_loopw [7,8] (fun v vi wr=>∃ (m:Nat) (acc:List Nat),m≤(eqL L).length∧vi = .int .i64 m∧acc ++ usesL ts name.data.toList pl ((eqL L).drop m)=usesR ts L name.data.toList pl∧acc.length≤m * 1501∧wr.ownsRow w.heap.size 3 1 v acc.length (pCells acc)∧Below w.heap.size w wr) (fun _ vi _=>(eqL L).length - (intOf vi).toNat)
 case atStart=>exact ⟨0,[],Nat.zero_le _,rfl,HU.out,by simp,World.ownsRow_nil _ _ _ _,Below.refl _ _⟩
 case round=>
  obtain ⟨m,acc,hm,rfl,hrec,hal,hown,hbel⟩:=hrel
  have c4:=(HR.out.below hbel).c4
  have HOW:=hide hown
  have HRC:=hide hrec
  have hbs:=hbel.size
  clear hrec hown
  by_cases hml:m<(eqL L).length
  ·obtain ⟨gq,rfl,_,hgq2⟩:=HSH.out (by omega)
   obtain ⟨x,hx⟩:∃ x,x=(eqL L)[m]'hml:=⟨_,rfl⟩
   obtain ⟨hxm,hxk,hxs,hxl,_⟩:=HO.out.eq (x:=x) (by rw [hx];exact List.getElem_mem hml)
   obtain ⟨e1,e2,e3⟩:=rdc_truth ts hxk
   obtain ⟨d,hd⟩:∃ d,d=rdc ts x:=⟨_,rfl⟩
   rw [← hd] at e1 e2 e3
   obtain ⟨y0,y1,y2,y3,y4,y5⟩:=rd_later HR.out.eqs hbel hgq2 hml d (by rw [hd,hx])
   have hbe:behindF ts (x.i+5)=x.i+5+x.t.len:=behind_sp HO.out.F x.t (x.i+5) hxs (by omega)
   have hul:=usesL_len ts name.data.toList pl x (by omega)
   have HST:Hid (acc ++ ((if placeD ts x=pl then useOf ts x name.data.toList else []) ++ usesL ts name.data.toList pl ((eqL L).drop (m+1)))=usesR ts L name.data.toList pl):=hide (by
    rw [← HRC.out,List.drop_eq_getElem_cons hml,← hx];rfl)
   obtain ⟨b,hb⟩:∃ b,b=x.i+5:=⟨_,rfl⟩
   obtain ⟨en,hen⟩:∃ en,en=b+x.t.len:=⟨_,rfl⟩
   rw [← hb] at hbe e2
   rw [← hen] at hbe
   rw [e2] at y5
   have HBE:=hide hbe
   have j3:(0:Int)≤(m:Int):=by omega
   have j4:(m:Int)<((eqL L).length:Int):=by omega
   have j5:(0:Int)≤(b:Int):=by omega
   have j6:(b:Int)<(ts.length:Int):=by omega
   have hel:en<ts.length:=by omega
   have HUO:Hid (useOf ts x name.data.toList=(List.range' b (en - b)).filter fun j=>isNm ts j && lAt ts j == name.data.toList):=hide (by unfold useOf;rw [← hb,hen,Nat.add_sub_cancel_left])
   have HPL:=hide e3
   have hben:b<en:=by have:=x.t.len_pos;omega
   clear hen hxl
   clear hbe hb hd hx e1 e2 e3 hxm hxk hxs
   go_wp2
   generalize hB:wr.heap.size=B
   go_loopw [7,10] (fun v vj wx=>∃ k:Nat,b≤k∧k≤en∧vj = .int .i64 k∧(d.place=pl∨k=b)∧wx.ownsRow w.heap.size 3 1 v (acc ++ (List.range' b (k - b)).filter fun j=>isNm ts j && lAt ts j == name.data.toList).length (pCells (acc ++ (List.range' b (k - b)).filter fun j=>isNm ts j && lAt ts j == name.data.toList))∧Below w.heap.size w wx∧wx.cell? ⟨B,4,none⟩=some (.int .i64 (d.place:Int))∧wx.cell? ⟨B,5,none⟩=some (.int .i64 (b:Int))∧v.ownBlock≠some B∧B<wx.heap.size) (fun _ vj _=>en - (intOf vj).toNat)
   case atStart=>
    subst hB
    refine ⟨b,Nat.le_refl _,by omega,rfl,.inr rfl,?_,hbel.alloc hbel.size _,by simp,by simp,?_,by simp⟩
    ·rw [Nat.sub_self]
     simpa using HOW.out.alloc _
    ·intro e;have:=(HOW.out.lt _ e).2;omega
   case round=>
    clear hB c4 y0 y1 y2 y3 y4 y5 hbel HOW
    obtain ⟨k,hk0,hk1,rfl,hpl,hownx,hbx,t4,t5,hne,hBl⟩:=hrel
    have HRP:=hide (HR.out.below hbx)
    have c0:=HRP.out.c0
    have c1:=HRP.out.c1
    have r0:=end_later HR.out.ends hbx hgE (show b<ts.length by omega)
    rw [HBE.out] at r0
    have HOX:=hide hownx
    have HBX:=hide hbx
    have hbsx:=hbx.size
    have hfl:(acc ++ (List.range' b (k - b)).filter fun j=>isNm ts j && lAt ts j == name.data.toList).length≤acc.length+1501:=by
     rw [List.length_append]
     have:=List.length_filter_le (fun j=>isNm ts j && lAt ts j == name.data.toList) (List.range' b (k - b))
     rw [List.length_range'] at this
     omega
    have hm15:m * 1501≤1501 * 1501:=Nat.mul_le_mul_right _ (by omega)
    clear hownx hbx
    by_cases hp1:d.place=pl
    ·have q0:((d.place:Int) == (pl:Int))=true:=by rw [hp1];simp
     have HP1:=hide hp1
     clear hp1 hpl
     by_cases hlt:k<en
     ·have j7:(k:Int)<(en:Int):=by omega
      have j8:(0:Int)≤(k:Int):=by omega
      have j9:(k:Int)<(ts.length:Int):=by omega
      obtain ⟨a,ha⟩:∃ a,a=rtok (tkAt ts k):=⟨_,rfl⟩
      obtain ⟨x0,x1,_,_⟩:=HR.out.toks.cells HBX.out (show k<ts.length by omega) a ha
      have hc:=c97 (tkAt ts k)
      rw [← ha] at hc
      have HNX:Hid ((List.range' b (k+1 - b)).filter (fun j=>isNm ts j && lAt ts j == name.data.toList)=(List.range' b (k - b)).filter (fun j=>isNm ts j && lAt ts j == name.data.toList) ++ (if (isNm ts k && lAt ts k == name.data.toList)=true then [k] else [])):=hide (by
       rw [show k+1 - b=(k - b)+1 by omega,range_split,List.filter_append,show b+(k - b)=k by omega]
       congr 1
       simp [List.range',List.filter_cons])
      by_cases hnm:(tkAt ts k).kind=1
      ·have q1:((a.c:Int) == 97)=true:=by rw [show (97:Int)=((97:Nat):Int) from rfl,beq_cast,hc,hnm];rfl
       have hw:a.word=(tkAt ts k).text:=by rw [ha];unfold rtok;simp [hnm]
       obtain ⟨ee,qE⟩:∃ ee,(a.word.toList == name.toList)=ee:=⟨_,rfl⟩
       have eE:(isNm ts k && lAt ts k == name.data.toList)=ee:=by
        rw [← qE,ByteArray.toList_eq,ByteArray.toList_eq,hw,show isNm ts k=true by unfold isNm;rw [hnm];rfl];rfl
       rw [eE] at HNX
       clear hc hnm ha hw eE
       cases ee
       ·have HN2:=hide (HNX.out.trans (by rw [if_neg (by simp),List.append_nil]))
        clear HNX
        go_wp2_with fail
        go_quiet (fail)
        go_wp2
        go_roundw
        case rel=>exact ⟨k+1,by omega,by omega,by go_num,.inl HP1.out,by rw [HN2.out];first | exact HOX.out | exact HOX.out.drewN _ | exact bel_own HOX.out (below_drewN (Below.refl _ _) _),by first | exact HBX.out | exact below_drewN HBX.out _,t4,t5,hne,hBl⟩
        case measure=>simp [intOf];omega
       ·have HN2:=hide (HNX.out.trans (by rw [if_pos rfl]))
        clear HNX
        generalize hFL:(List.range' b (k - b)).filter (fun j=>isNm ts j && lAt ts j == name.data.toList)=F at HOX HN2 hfl
        have HFL:=hide hFL
        clear hFL
        go_wp2_with fail
        go_quiet (fail)
        have hod:=bel_own HOX.out (below_drewN (Below.refl wr.heap.size wr) nq)
        have HBD:Hid (Below w.heap.size w (wr.drewN nq)):=hide (below_drewN HBX.out _)
        go_wp2_with (at_builtin;refine wpList_append_lies _ rfl _ _ _ rfl w.heap.size 3 i0 _ 1 8 Tryz.underlying36 hi0 hz0 hz1 hz2 rfl (by omega) _ (acc ++ F).length (pCells (acc ++ F)) rfl (hod.alloc _) ⟨wr.heap.size,0,none⟩ 1 1 [.int .i64 (k:Int)] rfl rfl (World.news_of_block (cs:=#[.int .i64 (k:Int)]) (t:=3) (fr:=(0,0)) (heap_alloc_new (wr.drewN nq) _)) (by simp [Value.oneCell']) (by omega) (by unfold maxLen;omega) (by omega) (by simp;omega) (wr.heap.size+1) (by simp) ?_;intro g3 cap3 w3 hown3 hgrow hat hlt3)
        go_roundw
        case rel=>
         have hsz3:=hgrow.size
         simp at hsz3
         have hfe:=HFL.out
         refine ⟨k+1,by omega,by omega,by go_num,.inl HP1.out,?_,?_,?_,?_,?_,by omega⟩
         ·rw [HN2.out,← List.append_assoc,pCells_snoc,List.length_append,List.length_append]
          rw [List.length_append] at hown3
          exact hown3
         ·exact (HBD.out.alloc (by simpa using hbsx) _).grown hgrow (by simp;omega) (fun j hj=>ownBlock_ge hod j hj)
         ·exact hgrow.cell (by rw [World.cell?_alloc_past _ _ _ (by simpa using hBl)];exact t4) (fun h=>hne h.symm)
         ·exact hgrow.cell (by rw [World.cell?_alloc_past _ _ _ (by simpa using hBl)];exact t5) (fun h=>hne h.symm)
         ·intro h
          have h':g3=B:=by simpa [Value.ownBlock] using h
          rcases hat with hat | hat
          ·rw [h'] at hat;exact hne hat
          ·omega
        case measure=>simp [intOf];omega
      ·have q1:((a.c:Int) == 97)=false:=by rw [show (97:Int)=((97:Nat):Int) from rfl,beq_cast,hc];exact beq_eq_false_iff_ne.2 hnm
       have HN2:=hide (HNX.out.trans (by rw [show isNm ts k=false from beq_eq_false_iff_ne.2 hnm,Bool.false_and,if_neg (by simp),List.append_nil]))
       clear hc hnm ha HNX
       go_wp2_with fail
       go_quiet (fail)
       go_wp2
       go_roundw
       case rel=>exact ⟨k+1,by omega,by omega,by go_num,.inl HP1.out,by rw [HN2.out];first | exact HOX.out | exact bel_own HOX.out (below_drewN (Below.refl _ _) _),by first | exact HBX.out | exact below_drewN HBX.out _,t4,t5,hne,hBl⟩
       case measure=>simp [intOf];omega
     ·have ek:k=en:=by omega
      subst ek
      have j7:¬ (k:Int)<(k:Int):=by omega
      go_wp2_with fail
      go_quiet (fail)
      go_wp2
      go_roundw
      case rel=>
       have hst:=HST.out
       rw [if_pos (by rw [← HPL.out];exact HP1.out),HUO.out,← List.append_assoc] at hst
       exact ⟨m+1,_,by omega,by go_num,hst,by rw [Nat.succ_mul];omega,by first | exact HOX.out | exact bel_own HOX.out (below_drewN (Below.refl _ _) _),by first | exact HBX.out | exact below_drewN HBX.out _⟩
      case measure=>simp [intOf];omega
    ·have q0:((d.place:Int) == (pl:Int))=false:=by rw [beq_eq_false_iff_ne];omega
     have ekb:k=b:=by rcases hpl with h | h;exact absurd h hp1;exact h
     have j7:(k:Int)<(en:Int):=by omega
     have HST2:=HST.out
     rw [if_neg (by rw [← HPL.out];exact hp1),List.nil_append] at HST2
     have HS3:=hide HST2
     have HO3:Hid (wr.ownsRow w.heap.size 3 1 _ acc.length (pCells acc)):=hide (by
      have:=HOX.out
      rw [ekb,Nat.sub_self] at this
      simpa using this)
     clear HST2 hp1 hpl ekb HOX
     go_wp2_with fail
     go_quiet (fail)
     go_wp2
     go_roundw
     case rel=>exact ⟨m+1,acc,by omega,by go_num,HS3.out,by rw [Nat.succ_mul];omega,by first | exact HO3.out | exact bel_own HO3.out (below_drewN (Below.refl _ _) _),by first | exact HBX.out | exact below_drewN HBX.out _⟩
     case measure=>simp [intOf];omega
  ·have em:m=(eqL L).length:=by omega
   subst em
   have z1:¬ ((eqL L).length:Int)<((eqL L).length:Int):=by omega
   have hu:=HRC.out
   rw [List.drop_length] at hu
   have hu2:acc=usesR ts L name.data.toList pl:=by rw [← hu];simp [usesL]
   have HU2:=hide hu2
   clear hu hu2 HRC
   go_wp2
   go_ret
   exact ⟨_,rfl,by rw [← HU2.out];exact HOW.out,hbel⟩
theorem dec_step (d:RDc) (w:World) {wr:World} (hb:Below (w.alloc (.cells #[.string d.name,.int .i64 (d.tok:Int),.bool d.input,.bool d.truth,.int .i64 (d.place:Int),.int .i64 (d.body:Int)] 106)).heap.size (w.alloc (.cells #[.string d.name,.int .i64 (d.tok:Int),.bool d.input,.bool d.truth,.int .i64 (d.place:Int),.int .i64 (d.body:Int)] 106)) wr) :
  wr.cell? ⟨w.heap.size,5,none⟩=some (.int .i64 (d.body:Int))∧wr.cell? ⟨w.heap.size,4,none⟩=some (.int .i64 (d.place:Int))∧Below w.heap.size w wr:=by
 have hN:=(hb.block w.heap.size (by simp)).trans (heap_alloc_new w _)
 refine ⟨?_,?_,((Below.refl _ _).alloc (Nat.le_refl _) _).trans (hb.mono (by simp))⟩
 ·rw [cell_of_row wr _ 5 _ _ _ hN];rfl
 ·rw [cell_of_row wr _ 4 _ _ _ hN];rfl
set_option maxHeartbeats 1000000 in
theorem rhangs_any (w:World) (q g cap:Nat) (ts:List Tk) (L:List Dl) (vE vA vI vQ:Value) (h:RProg w q g cap ts L vE vA vI vQ) (ho:ROk ts L) (x:Dl) (hx:x∈eqL L) (name:ByteArray) :
  Calls Tryz.prog 76 #[.pointer (some ⟨q,0,none⟩),(rdc ts x).val,.string name] w fun e w'=>e = .returned (.bool (hangsR ts x name.data.toList))∧Below w.heap.size w w':=by
 have hlen:=ho.len
 have hpos:=ho.pos
 obtain ⟨gE,capE,rfl,_,hgE⟩:=h.ends.form (by omega)
 obtain ⟨hxm,hxk,hxs,hxl,_⟩:=ho.eq hx
 have hbd:(rdc ts x).body=x.i+5:=by unfold rdc;rw [if_neg hxk]
 have hbe:behindF ts (x.i+5)=x.i+5+x.t.len:=behind_sp ho.F x.t (x.i+5) hxs (by omega)
 have HR:=hide h
 have HO:=hide ho
 generalize rdc ts x=d at hbd
 obtain ⟨b,hb⟩:∃ b,b=x.i+5:=⟨_,rfl⟩
 obtain ⟨e,he⟩:∃ e,e=b+x.t.len:=⟨_,rfl⟩
 rw [← hb] at hbe hbd
 rw [← he] at hbe
 have HBE:=hide hbe
 have HHG:Hid (((List.range' b (e - b)).any fun j=>isNm ts j && (lAt ts j == name.data.toList && !delayedR ts b j))=hangsR ts x name.data.toList):=hide (by unfold hangsR;rw [← hb,he,Nat.add_sub_cancel_left])
 have hel:e<ts.length:=by omega
 have hble:b≤e:=by omega
 have HB:=hide (fun wr hb=>dec_step d w (wr:=wr) hb)
 rw [hbd] at HB
 clear hbe he hb h ho hxs hxm hxk hx
 obtain ⟨W0,hW0⟩:∃ W0,W0=w.alloc (.cells #[.string d.name,.int .i64 (d.tok:Int),.bool d.input,.bool d.truth,.int .i64 (d.place:Int),.int .i64 (b:Int)] 106):=⟨_,rfl⟩
 rw [← hW0] at HB
 obtain ⟨t0,_,t2⟩:=HB.out W0 (Below.refl _ _)
 have r0:=end_later HR.out.ends t2 hgE (show b<ts.length by omega)
 have c1:=(HR.out.below t2).c1
 rw [HBE.out] at r0
 have j1:(0:Int)≤(b:Int):=by omega
 have j2:(b:Int)<(ts.length:Int):=by omega
 show Calls Tryz.prog 76 #[.pointer (some ⟨q,0,none⟩),.agg #[.string d.name,.int .i64 (d.tok:Int),.bool d.input,.bool d.truth,.int .i64 (d.place:Int),.int .i64 (d.body:Int)],.string name] w _
 rw [hbd]
 have HW0:=hide hW0
 clear hbd hW0
 go_enter Tryz.func76,Tryz.ntmps76
 go_wp2
 rw [← HW0.out]
 go_loopw [7] (fun f wr=>∃ k:Nat,b≤k∧k≤e∧f = .int .i64 k∧Below W0.heap.size W0 wr∧((List.range' k (e - k)).any fun j=>isNm ts j && (lAt ts j == name.data.toList && !delayedR ts b j))=hangsR ts x name.data.toList) (fun f _=>e - (intOf f).toNat)
 case atStart=>exact ⟨b,Nat.le_refl _,hble,rfl,Below.refl _ _,HHG.out⟩
 case round=>
  clear t0 c1 r0
  obtain ⟨k,hk0,hk,rfl,hbel,hrec⟩:=hrel
  obtain ⟨t0,_,hbw⟩:=HB.out wr hbel
  have hrp:=HR.out.below hbw
  have c0:=hrp.c0
  have c1:=hrp.c1
  have r0:=end_later HR.out.ends hbw hgE (show b<ts.length by omega)
  rw [HBE.out] at r0
  by_cases hlt:k<e
  ·have j5:(k:Int)<(e:Int):=by omega
   have j3:(0:Int)≤(k:Int):=by omega
   have j4:(k:Int)<(ts.length:Int):=by omega
   rw [any_range _ _ hlt] at hrec
   have HRC:=hide hrec
   have HRP:=hide hrp
   clear hrec hrp
   go_wp2_with fail
   go_quiet (fail)
   go_wp2_with fail
   have hdr:Below wr.heap.size wr (wr.drewN nq):=below_drewN (Below.refl _ _) _
   refine (rdelayed_any _ q g cap ts L _ _ _ _ (HRP.out.below hdr) HO.out b k hk0 (by omega)).mono ?_
   rintro e1 w2 ⟨rfl,hb2⟩
   have hbx:Below wr.heap.size wr w2:=hdr.trans (hb2.mono hdr.size)
   have hbel2:Below W0.heap.size W0 w2:=hbel.trans (hbx.mono hbel.size)
   have hbw2:Below w.heap.size w w2:=hbw.trans (hbx.mono hbw.size)
   clear hdr hb2 hbx hbel hbw c0 c1 r0 t0
   have c0:=(HR.out.below hbw2).c0
   obtain ⟨a,ha⟩:∃ a,a=rtok (tkAt ts k):=⟨_,rfl⟩
   obtain ⟨x0,x1,x2,x3⟩:=HR.out.toks.cells hbw2 (show k<ts.length by omega) a ha
   have hc:=c97 (tkAt ts k)
   rw [← ha] at hc
   have hrec:=HRC.out
   generalize delayedR ts b k=lt at hrec ⊢
   by_cases hnm:(tkAt ts k).kind=1
   ·have q1:((a.c:Int) == 97)=true:=by
     rw [show (97:Int)=((97:Nat):Int) from rfl,beq_cast,hc,hnm];rfl
    have hw:a.word=(tkAt ts k).text:=by rw [ha];unfold rtok;simp [hnm]
    obtain ⟨ee,qE⟩:∃ ee,(a.word.toList == name.toList)=ee:=⟨_,rfl⟩
    have eE:(lAt ts k == name.data.toList)=ee:=by
     rw [← qE,ByteArray.toList_eq,ByteArray.toList_eq,hw];rfl
    rw [eE,show isNm ts k=true by unfold isNm;rw [hnm];rfl,Bool.true_and] at hrec
    have HRX:=hide hrec
    have HB2:=hide (And.intro hbel2 hbw2)
    clear hrec hc hnm ha hw eE HRC
    cases ee
    ·have HR2:Hid (((List.range' (k+1) (e - (k+1))).any fun j=>isNm ts j && (lAt ts j == name.data.toList && !delayedR ts b j))=hangsR ts x name.data.toList):=hide (by rw [← HRX.out];simp)
     clear HRX
     go_wp2
     go_roundw
     case rel=>exact ⟨k+1,by omega,by omega,by go_num,by first | exact HB2.out.1 | exact below_drewN HB2.out.1 _,HR2.out⟩
     case measure=>simp [intOf];omega
    ·cases lt
     ·have HR2:Hid (hangsR ts x name.data.toList=true):=hide (by rw [← HRX.out];simp)
      clear HRX
      go_wp2
      go_ret
      exact ⟨by rw [HR2.out];rfl,by first | exact HB2.out.2 | exact below_drewN HB2.out.2 _⟩
     ·have HR2:Hid (((List.range' (k+1) (e - (k+1))).any fun j=>isNm ts j && (lAt ts j == name.data.toList && !delayedR ts b j))=hangsR ts x name.data.toList):=hide (by rw [← HRX.out];simp)
      clear HRX
      go_wp2
      go_roundw
      case rel=>exact ⟨k+1,by omega,by omega,by go_num,by first | exact HB2.out.1 | exact below_drewN HB2.out.1 _,HR2.out⟩
      case measure=>simp [intOf];omega
   ·have q1:((a.c:Int) == 97)=false:=by
     rw [show (97:Int)=((97:Nat):Int) from rfl,beq_cast,hc];exact beq_eq_false_iff_ne.2 hnm
    have hno:isNm ts k=false:=by unfold isNm;exact beq_eq_false_iff_ne.2 hnm
    have HR2:Hid (((List.range' (k+1) (e - (k+1))).any fun j=>isNm ts j && (lAt ts j == name.data.toList && !delayedR ts b j))=hangsR ts x name.data.toList):=hide (by rw [← hrec,hno];simp)
    have HB2:=hide (And.intro hbel2 hbw2)
    clear hrec hc hnm ha hno HRC
    go_wp2
    go_roundw
    case rel=>exact ⟨k+1,by omega,by omega,by go_num,by first | exact HB2.out.1 | exact below_drewN HB2.out.1 _,HR2.out⟩
    case measure=>simp [intOf];omega
  ·have ek:e - k=0:=by omega
   rw [ek] at hrec
   have HRC:=hide hrec
   have z1:¬ (k:Int)<(e:Int):=by omega
   have HBW:=hide hbw
   clear hrec ek hrp
   go_wp2_with fail
   go_quiet (fail)
   go_wp2
   go_ret
   exact ⟨by rw [← HRC.out];rfl,below_drewN HBW.out _⟩
set_option maxHeartbeats 2000000 in
set_option maxRecDepth 100000 in
theorem rtypes_any (w:World) (q g cap:Nat) (ts:List Tk) (L:List Dl) (vE vA vI vQ:Value) (h:RProg w q g cap ts L vE vA vI vQ) (ho:ROk ts L) (hp:∀ i,(tkAt ts i).pos≤1500) :
  Calls Tryz.prog 40 #[.pointer (some ⟨q,0,none⟩)] w fun e w'=>e = .returned (optI (typesR ts L))∧Below w.heap.size w w':=by
 obtain ⟨hm1,hm2,hm3⟩:=ho.many
 obtain ⟨av,cv,rfl,hsh⟩:=own_shape h.eqs
 have hlen:=ho.len
 have HR:=hide h
 have HO:=hide ho
 have HSH:=hide hsh
 have HWR:=hide (fun n t i wt W=>rwrong_any q g cap ts L vE vA vI (.slice av (eqL L).length cv) ho hp n t i wt W)
 clear h ho hsh hp
 go_enter Tryz.func40,Tryz.ntmps40
 go_wp2
 go_loopw [3] (fun vi wr=>∃ m:Nat,m≤(eqL L).length∧vi = .int .i64 m∧Below w.heap.size w wr∧((eqL L).drop m).findSome? (fun x=>wrongR ts L x.t (x.i+5) (wB (x.kind == 2)))=typesR ts L) (fun vi _=>(eqL L).length - (intOf vi).toNat)
 case atStart=>exact ⟨0,Nat.zero_le _,rfl,Below.refl _ _,rfl⟩
 case round=>
  obtain ⟨m,hm,rfl,hbel,hrec⟩:=hrel
  have HRP:=hide (HR.out.below hbel)
  have c4:=HRP.out.c4
  by_cases hml:m<(eqL L).length
  ·obtain ⟨gq,rfl,_,hgq2⟩:=HSH.out (by omega)
   obtain ⟨x,hx⟩:∃ x,x=(eqL L)[m]'hml:=⟨_,rfl⟩
   obtain ⟨hxm,hxk,hxs,hxl,_⟩:=HO.out.eq (x:=x) (by rw [hx];exact List.getElem_mem hml)
   obtain ⟨e1,e2,_⟩:=rdc_truth ts hxk
   obtain ⟨_,_,_,y3,_,y5⟩:=rd_later HR.out.eqs hbel hgq2 hml (rdc ts x) (by rw [hx])
   rw [e1] at y3
   rw [e2] at y5
   rw [List.drop_eq_getElem_cons hml,← hx,List.findSome?_cons] at hrec
   have HCALL:=hide (fun W hW=>HWR.out x.t.size x.t (x.i+5) (wB (x.kind == 2)) W (Nat.le_refl _) hW hxs hxl)
   have HV:Hid (∀ v,wrongR ts L x.t (x.i+5) (wB (x.kind == 2))=some v→typesR ts L=some v):=hide (fun v hv=>by
    have h:=hrec
    rw [hv] at h
    exact h.symm)
   have HN:Hid (wrongR ts L x.t (x.i+5) (wB (x.kind == 2))=none→((eqL L).drop (m+1)).findSome? (fun x=>wrongR ts L x.t (x.i+5) (wB (x.kind == 2)))=typesR ts L):=hide (fun hv=>by
    have h:=hrec
    rw [hv] at h
    exact h)
   generalize wrongR ts L x.t (x.i+5) (wB (x.kind == 2))=o at HCALL HV HN
   have j3:(0:Int)≤(m:Int):=by omega
   have j4:(m:Int)<((eqL L).length:Int):=by omega
   obtain ⟨bd,hbd⟩:∃ bd,bd=x.i+5:=⟨_,rfl⟩
   rw [← hbd] at y5 HCALL
   generalize (x.kind == 2)=tr at y3 HCALL
   clear hrec hx hxm hxk hxs hxl e1 e2 hbd
   cases tr
   all_goals
    simp only [wB] at HCALL
    go_wp2_with fail
    refine (HCALL.out _ HRP.out).mono ?_
    rintro e w3 ⟨rfl,hb3⟩
    have HB4:Hid (Below w.heap.size w w3):=hide (hbel.trans (hb3.mono hbel.size))
    clear hb3
    cases o with
    | none=>
     have HN2:=hide (HN.out rfl)
     simp only [optI]
     clear HV HN HCALL
     go_wp2
     go_roundw
     case rel=>exact ⟨m+1,by omega,by go_num,HB4.out,HN2.out⟩
     case measure=>simp [intOf];omega
    | some v=>
     have HV2:=hide (HV.out v rfl)
     simp only [optI]
     have z1:(0:Int)≤(v:Int):=by omega
     clear HV HN HCALL
     go_wp2
     go_ret
     exact ⟨by rw [HV2.out];rfl,HB4.out⟩
  ·have em:m=(eqL L).length:=by omega
   subst em
   rw [List.drop_length] at hrec
   have HRC:Hid (typesR ts L=none):=hide hrec.symm
   have z1:¬ ((eqL L).length:Int)<((eqL L).length:Int):=by omega
   clear hrec
   go_wp2
   go_ret
   exact ⟨by rw [HRC.out];rfl,hbel⟩
end Go.Proofs.YtmndgoapkmhglabGreat
