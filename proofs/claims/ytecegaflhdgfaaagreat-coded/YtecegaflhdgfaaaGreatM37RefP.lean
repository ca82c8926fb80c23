import Derived.Test.YtecegaflhdgfaaaGreatM34TabE
import Derived.Test.YtecegaflhdgfaaaGreatM35RefL
namespace Go.Proofs.YtecegaflhdgfaaaGreat
open Go.RowKit
attribute [local go_sem ↓] Go.wp_at_zero Go.wp_at_succ
set_option maxHeartbeats 2000000 in
set_option maxRecDepth 100000 in
theorem rwrong_any (q g cap:Nat) (ts:List Tk) (L:List Dl) (vE vA vI vQ:Value) (ho:ROk ts L) (hp:∀ i,(tkAt ts i).pos≤1500):∀ (n:Nat) (t:Ast) (i wt:Nat) (w:World),t.size≤n→RProg w q g cap ts L vE vA vI vQ→Sp ts t i→i+t.len<ts.length→
  Calls Tryz.prog 73 #[.pointer (some ⟨q,0,none⟩),.int .i64 (i:Int),.int .u8 (wt:Int)] w fun e w'=>e = .returned (optI (wrongR ts L t i wt))∧Below w.heap.size w w':=by
 intro n
 induction n with
 | zero=>intro t i wt w hn;have:=t.size_pos;omega
 | succ n ih=>
  intro t i wt w hn h hs hl
  have hlen:=ho.len
  have hpo:=hp i
  have hil:i<ts.length:=by omega
  have HIS:=hide (fun W hW=>ris_any W q g cap ts L vE vA vI vQ hW ho t i hs hl)
  have HPA:=hide (fun W hW=>rparts_any W q g cap ts L vE vA vI vQ hW ho t i wt hs hl)
  have hpk:=parts_ok ho.F (w:=wt) hs hl
  have hwr:=wrongR_parts ts L t i wt
  obtain ⟨a,ha⟩:∃ a,a=rtok (tkAt ts i):=⟨_,rfl⟩
  have HPO:Hid ((tkAt ts i).pos=a.pos):=hide (by rw [ha];rfl)
  have HTC:=hide (fun W hW=>(h.toks.cells (wr:=W) hW hil a ha))
  have HR:=hide h
  have HIH:=hide ih
  have HPK:=hide hpk
  have j1:(0:Int)≤(i:Int):=by omega
  have j2:(i:Int)<(ts.length:Int):=by omega
  have hps:(partsR ts t i wt).length≤3:=by cases t <;> simp [partsR]
  generalize partsR ts t i wt=ps at HPA HPK hwr hps
  clear h hs hpk ih ha
  by_cases hb:badR ts L i wt=true
  ·rw [hb,if_pos rfl] at hwr
   have hb':isR ts L i≠63∧isR ts L i≠wt:=by
    unfold badR at hb
    rw [Bool.and_eq_true,bne_iff_ne,bne_iff_ne] at hb
    exact hb
   have HWR:Hid (wrongR ts L t i wt=some a.pos):=hide (by rw [hwr,HPO.out])
   have q1:((isR ts L i:Int) != 63)=true:=by rw [bne_iff_ne];omega
   have q2:((isR ts L i:Int) != (wt:Int))=true:=by rw [bne_iff_ne];omega
   generalize isR ts L i=r at q1 q2 HIS
   clear hwr hb hb'
   go_enter Tryz.func73,Tryz.ntmps73
   go_wp2_with fail
   refine (HIS.out w HR.out).mono ?_
   rintro e w1 ⟨rfl,hb1⟩
   have c0:=(HR.out.below hb1).c0
   have x2:=(HTC.out w1 hb1).2.2.1
   go_wp2
   go_ret
   exact ⟨by rw [HWR.out];rfl,hb1⟩
  ·have hbf:badR ts L i wt=false:=by simpa using hb
   rw [hbf,if_neg (by simp)] at hwr
   have hcs:((isR ts L i:Int) != 63)=false∨(((isR ts L i:Int) != 63)=true∧((isR ts L i:Int) != (wt:Int))=false):=by
    unfold badR at hbf
    by_cases e:isR ts L i=63
    ·left;rw [e];rfl
    ·right
     have e2:isR ts L i=wt:=by
      rw [Bool.and_eq_false_iff] at hbf
      rcases hbf with h | h
      ·rw [bne_eq_false_iff_eq] at h;exact absurd h e
      ·rw [bne_eq_false_iff_eq] at h;exact h
     exact ⟨by rw [bne_iff_ne];omega,by rw [e2];simp⟩
   have HWR:=hide hwr
   generalize isR ts L i=r at hcs HIS
   clear hwr hb hbf
   rcases hcs with q1 | ⟨q1,q2⟩
   all_goals
    go_enter Tryz.func73,Tryz.ntmps73
    go_wp2_with fail
    refine (HIS.out w HR.out).mono ?_
    rintro e w1 ⟨rfl,hb1⟩
    go_wp2_with fail
    refine (HPA.out w1 (HR.out.below hb1)).mono ?_
    rintro e w2 ⟨vl,vw,rfl,hol,how,hb2⟩
    have hbw2:Below w.heap.size w w2:=hb1.trans (hb2.mono hb1.size)
    obtain ⟨al,cl,rfl,hshl⟩:=own_shape hol
    obtain ⟨aw,cw,rfl,hshw⟩:=own_shape how
    have HL:=hide (And.intro hol hshl)
    have HW:=hide (And.intro how hshw)
    clear hol how hshl hshw hb1 hb2
    go_wp2
    go_loopw [10] (fun vk wx=>∃ m:Nat,m≤ps.length∧vk = .int .i64 m∧Below w2.heap.size w2 wx∧(ps.drop m).findSome? (fun p=>wrongR ts L p.t p.i p.w)=wrongR ts L t i wt) (fun vk _=>ps.length - (intOf vk).toNat)
    case atStart=>exact ⟨0,Nat.zero_le _,rfl,Below.refl _ _,HWR.out.symm⟩
    case round=>
     obtain ⟨m,hm,rfl,hbx,hrec⟩:=hrel
     have hbwx:Below w.heap.size w wr:=hbw2.trans (hbx.mono hbw2.size)
     have HRP:=hide (HR.out.below hbwx)
     by_cases hml:m<ps.length
     ·obtain ⟨gl,rfl,_,hgl⟩:=HL.out.2 (by omega)
      obtain ⟨gw,rfl,_,hgw⟩:=HW.out.2 (by omega)
      obtain ⟨p,hp'⟩:∃ p,p=ps[m]'hml:=⟨_,rfl⟩
      obtain ⟨k1,k2,k3⟩:=HPK.out p (by rw [hp'];exact List.getElem_mem hml)
      have l1:wr.cell? ⟨gl,m,none⟩=some (.int .i64 (p.i:Int)):=by
       rw [hbx.cell (p:=⟨gl,m,none⟩) hgl,HL.out.1.cellAt m (by omega)]
       unfold pCells
       rw [List.getElem?_map,List.getElem?_map,List.getElem?_eq_getElem hml,← hp'];rfl
      have l2:wr.cell? ⟨gw,m,none⟩=some (.int .u8 (p.w:Int)):=by
       rw [hbx.cell (p:=⟨gw,m,none⟩) hgw,HW.out.1.cellAt m (by omega)]
       unfold wCells
       rw [List.getElem?_map,List.getElem?_map,List.getElem?_eq_getElem hml,← hp'];rfl
      rw [List.drop_eq_getElem_cons hml,← hp',List.findSome?_cons] at hrec
      have HRC:=hide hrec
      have j3:(0:Int)≤(m:Int):=by omega
      have j4:(m:Int)<(ps.length:Int):=by omega
      have HCALL:=hide (fun W hW=>HIH.out p.t p.i p.w W (by omega) hW k1 k2)
      have HV:Hid (∀ v,wrongR ts L p.t p.i p.w=some v→wrongR ts L t i wt=some v):=hide (fun v hv=>by
       have h:=HRC.out
       rw [hv] at h
       exact h.symm)
      have HN:Hid (wrongR ts L p.t p.i p.w=none→(ps.drop (m+1)).findSome? (fun p=>wrongR ts L p.t p.i p.w)=wrongR ts L t i wt):=hide (fun hv=>by
       have h:=HRC.out
       rw [hv] at h
       exact h)
      generalize wrongR ts L p.t p.i p.w=o at HCALL HV HN
      generalize p.i=pi at l1 HCALL
      generalize p.w=pw at l2 HCALL
      clear hrec hp' k1 k2 k3 HRC
      have g1:gl<wr.heap.size:=by have:=hbx.size;omega
      have g2':gw<wr.heap.size:=by have:=hbx.size;omega
      go_wp2_with fail
      go_region_held3 (fun w'=>w'.cell? ⟨gl,m,none⟩=some (.int .i64 (pi:Int))∧w'.cell? ⟨gw,m,none⟩=some (.int .u8 (pw:Int))) (go_keep)
       ((go_at_call 73;refine (HCALL.out _ (HRP.out.below ((Below.refl _ _).drew))).mono ?_;rintro e w3 ⟨rfl,hb3⟩;have t1:=(hb3.cell (p:=⟨gl,m,none⟩) g1).trans l1;have t2:=(hb3.cell (p:=⟨gw,m,none⟩) g2').trans l2))
      rename_i hHeld
      clear hHeld
      have HB3:Hid (Below w2.heap.size w2 w3):=hide (hbx.drew.trans (hb3.mono hbx.size))
      have HB4:Hid (Below w.heap.size w w3):=hide (hbwx.drew.trans (hb3.mono hbwx.size))
      clear hb3 t1 t2
      cases o with
      | none=>
       have HN2:=hide (HN.out rfl)
       simp only [optI]
       clear HV HN HCALL
       go_wp2
       go_roundw
       case rel=>exact ⟨m+1,by omega,by go_num,HB3.out,HN2.out⟩
       case measure=>simp [intOf];omega
      | some v=>
       have HV2:=hide (HV.out v rfl)
       simp only [optI]
       have z1:(0:Int)≤(v:Int):=by omega
       clear HV HN HCALL
       go_wp2
       go_ret
       exact ⟨by rw [HV2.out];rfl,HB4.out⟩
     ·have em:m=ps.length:=by omega
      subst em
      rw [List.drop_length] at hrec
      have HRC:Hid (wrongR ts L t i wt=none):=hide hrec.symm
      have z1:¬ (ps.length:Int)<(ps.length:Int):=by omega
      clear hrec
      go_wp2
      go_ret
      exact ⟨by rw [HRC.out];rfl,hbwx⟩
set_option maxHeartbeats 2000000 in
set_option maxRecDepth 100000 in
theorem rtypes_any (w:World) (q g cap:Nat) (ts:List Tk) (L:List Dl) (vE vA vI vQ:Value) (h:RProg w q g cap ts L vE vA vI vQ) (ho:ROk ts L) (hp:∀ i,(tkAt ts i).pos≤1500) :
  Calls Tryz.prog 44 #[.pointer (some ⟨q,0,none⟩)] w fun e w'=>e = .returned (optI (typesR ts L))∧Below w.heap.size w w':=by
 obtain ⟨hm1,hm2,hm3⟩:=ho.many
 obtain ⟨av,cv,rfl,hsh⟩:=own_shape h.eqs
 have hlen:=ho.len
 have HR:=hide h
 have HO:=hide ho
 have HSH:=hide hsh
 have HWR:=hide (fun n t i wt W=>rwrong_any q g cap ts L vE vA vI (.slice av (eqL L).length cv) ho hp n t i wt W)
 clear h ho hsh hp
 go_enter Tryz.func44,Tryz.ntmps44
 go_wp2
 go_loopw [3] (fun vi wr=>∃ m:Nat,m≤(eqL L).length∧vi = .int .i64 m∧Below w.heap.size w wr∧((eqL L).drop m).findSome? (fun x=>wrongR ts L x.t (x.i+5) (wB (x.kind == 2)))=typesR ts L) (fun vi _=>(eqL L).length - (intOf vi).toNat)
 case atStart=>exact ⟨0,Nat.zero_le _,rfl,Below.refl _ _,rfl⟩
 case round=>
  obtain ⟨m,hm,rfl,hbel,hrec⟩:=hrel
  have HRP:=hide (HR.out.below hbel)
  have c4:=HRP.out.c4
  by_cases hml:m<(eqL L).length
  ·obtain ⟨gq,rfl,_,hgq2⟩:=HSH.out (by omega)
   obtain ⟨x,hx⟩:∃ x,x=(eqL L)[m]'hml:=⟨_,rfl⟩
   obtain ⟨hxm,hxk,hxs,hxl,_⟩:=HO.out.eq (x:=x) (by rw [hx];exact List.getElem_mem hml)
   obtain ⟨e1,e2,_⟩:=rdc_truth ts hxk
   obtain ⟨_,_,_,y3,_,y5⟩:=rd_later HR.out.eqs hbel hgq2 hml (rdc ts x) (by rw [hx])
   rw [e1] at y3
   rw [e2] at y5
   rw [List.drop_eq_getElem_cons hml,← hx,List.findSome?_cons] at hrec
   have HCALL:=hide (fun W hW=>HWR.out x.t.size x.t (x.i+5) (wB (x.kind == 2)) W (Nat.le_refl _) hW hxs hxl)
   have HV:Hid (∀ v,wrongR ts L x.t (x.i+5) (wB (x.kind == 2))=some v→typesR ts L=some v):=hide (fun v hv=>by
    have h:=hrec
    rw [hv] at h
    exact h.symm)
   have HN:Hid (wrongR ts L x.t (x.i+5) (wB (x.kind == 2))=none→((eqL L).drop (m+1)).findSome? (fun x=>wrongR ts L x.t (x.i+5) (wB (x.kind == 2)))=typesR ts L):=hide (fun hv=>by
    have h:=hrec
    rw [hv] at h
    exact h)
   generalize wrongR ts L x.t (x.i+5) (wB (x.kind == 2))=o at HCALL HV HN
   have j3:(0:Int)≤(m:Int):=by omega
   have j4:(m:Int)<((eqL L).length:Int):=by omega
   obtain ⟨bd,hbd⟩:∃ bd,bd=x.i+5:=⟨_,rfl⟩
   rw [← hbd] at y5 HCALL
   generalize (x.kind == 2)=tr at y3 HCALL
   clear hrec hx hxm hxk hxs hxl e1 e2 hbd
   cases tr
   all_goals
    simp only [wB] at HCALL
    go_wp2_with fail
    refine (HCALL.out _ HRP.out).mono ?_
    rintro e w3 ⟨rfl,hb3⟩
    have HB4:Hid (Below w.heap.size w w3):=hide (hbel.trans (hb3.mono hbel.size))
    clear hb3
    cases o with
    | none=>
     have HN2:=hide (HN.out rfl)
     simp only [optI]
     clear HV HN HCALL
     go_wp2
     go_roundw
     case rel=>exact ⟨m+1,by omega,by go_num,HB4.out,HN2.out⟩
     case measure=>simp [intOf];omega
    | some v=>
     have HV2:=hide (HV.out v rfl)
     simp only [optI]
     have z1:(0:Int)≤(v:Int):=by omega
     clear HV HN HCALL
     go_wp2
     go_ret
     exact ⟨by rw [HV2.out];rfl,HB4.out⟩
  ·have em:m=(eqL L).length:=by omega
   subst em
   rw [List.drop_length] at hrec
   have HRC:Hid (typesR ts L=none):=hide hrec.symm
   have z1:¬ ((eqL L).length:Int)<((eqL L).length:Int):=by omega
   clear hrec
   go_wp2
   go_ret
   exact ⟨by rw [HRC.out];rfl,hbel⟩
theorem dec_step (d:RDc) (w:World) {wr:World} (hb:Below (w.alloc (.cells #[.string d.name,.int .i64 (d.tok:Int),.bool d.input,.bool d.truth,.int .i64 (d.place:Int),.int .i64 (d.body:Int)] 105)).heap.size (w.alloc (.cells #[.string d.name,.int .i64 (d.tok:Int),.bool d.input,.bool d.truth,.int .i64 (d.place:Int),.int .i64 (d.body:Int)] 105)) wr) :
  wr.cell? ⟨w.heap.size,5,none⟩=some (.int .i64 (d.body:Int))∧wr.cell? ⟨w.heap.size,4,none⟩=some (.int .i64 (d.place:Int))∧Below w.heap.size w wr:=by
 have hN:=(hb.block w.heap.size (by simp)).trans (heap_alloc_new w _)
 refine ⟨?_,?_,((Below.refl _ _).alloc (Nat.le_refl _) _).trans (hb.mono (by simp))⟩
 ·rw [cell_of_row wr _ 5 _ _ _ hN];rfl
 ·rw [cell_of_row wr _ 4 _ _ _ hN];rfl
set_option maxHeartbeats 1000000 in
theorem rhangs_any (w:World) (q g cap:Nat) (ts:List Tk) (L:List Dl) (vE vA vI vQ:Value) (h:RProg w q g cap ts L vE vA vI vQ) (ho:ROk ts L) (x:Dl) (hx:x∈eqL L) (name:ByteArray) :
  Calls Tryz.prog 75 #[.pointer (some ⟨q,0,none⟩),(rdc ts x).val,.string name] w fun e w'=>e = .returned (.bool (hangsR ts x name.data.toList))∧Below w.heap.size w w':=by
 have hlen:=ho.len
 have hpos:=ho.pos
 obtain ⟨gE,capE,rfl,_,hgE⟩:=h.ends.form (by omega)
 obtain ⟨hxm,hxk,hxs,hxl,_⟩:=ho.eq hx
 have hbd:(rdc ts x).body=x.i+5:=by unfold rdc;rw [if_neg hxk]
 have hbe:behindF ts (x.i+5)=x.i+5+x.t.len:=behind_sp ho.F x.t (x.i+5) hxs (by omega)
 have HR:=hide h
 have HO:=hide ho
 generalize rdc ts x=d at hbd
 obtain ⟨b,hb⟩:∃ b,b=x.i+5:=⟨_,rfl⟩
 obtain ⟨e,he⟩:∃ e,e=b+x.t.len:=⟨_,rfl⟩
 rw [← hb] at hbe hbd
 rw [← he] at hbe
 have HBE:=hide hbe
 have HHG:Hid (((List.range' b (e - b)).any fun j=>isNm ts j && (lAt ts j == name.data.toList && !delayedR ts b j))=hangsR ts x name.data.toList):=hide (by unfold hangsR;rw [← hb,he,Nat.add_sub_cancel_left])
 have hel:e<ts.length:=by omega
 have hble:b≤e:=by omega
 have HB:=hide (fun wr hb=>dec_step d w (wr:=wr) hb)
 rw [hbd] at HB
 clear hbe he hb h ho hxs hxm hxk hx
 obtain ⟨W0,hW0⟩:∃ W0,W0=w.alloc (.cells #[.string d.name,.int .i64 (d.tok:Int),.bool d.input,.bool d.truth,.int .i64 (d.place:Int),.int .i64 (b:Int)] 105):=⟨_,rfl⟩
 rw [← hW0] at HB
 obtain ⟨t0,_,t2⟩:=HB.out W0 (Below.refl _ _)
 have r0:=end_later HR.out.ends t2 hgE (show b<ts.length by omega)
 have c1:=(HR.out.below t2).c1
 rw [HBE.out] at r0
 have j1:(0:Int)≤(b:Int):=by omega
 have j2:(b:Int)<(ts.length:Int):=by omega
 show Calls Tryz.prog 75 #[.pointer (some ⟨q,0,none⟩),.agg #[.string d.name,.int .i64 (d.tok:Int),.bool d.input,.bool d.truth,.int .i64 (d.place:Int),.int .i64 (d.body:Int)],.string name] w _
 rw [hbd]
 have HW0:=hide hW0
 clear hbd hW0
 go_enter Tryz.func75,Tryz.ntmps75
 go_wp2
 rw [← HW0.out]
 go_loopw [7] (fun f wr=>∃ k:Nat,b≤k∧k≤e∧f = .int .i64 k∧Below W0.heap.size W0 wr∧((List.range' k (e - k)).any fun j=>isNm ts j && (lAt ts j == name.data.toList && !delayedR ts b j))=hangsR ts x name.data.toList) (fun f _=>e - (intOf f).toNat)
 case atStart=>exact ⟨b,Nat.le_refl _,hble,rfl,Below.refl _ _,HHG.out⟩
 case round=>
  clear t0 c1 r0
  obtain ⟨k,hk0,hk,rfl,hbel,hrec⟩:=hrel
  obtain ⟨t0,_,hbw⟩:=HB.out wr hbel
  have hrp:=HR.out.below hbw
  have c0:=hrp.c0
  have c1:=hrp.c1
  have r0:=end_later HR.out.ends hbw hgE (show b<ts.length by omega)
  rw [HBE.out] at r0
  by_cases hlt:k<e
  ·have j5:(k:Int)<(e:Int):=by omega
   have j3:(0:Int)≤(k:Int):=by omega
   have j4:(k:Int)<(ts.length:Int):=by omega
   rw [any_range _ _ hlt] at hrec
   have HRC:=hide hrec
   have HRP:=hide hrp
   clear hrec hrp
   go_wp2_with fail
   go_quiet (fail)
   go_wp2_with fail
   have hdr:Below wr.heap.size wr (wr.drewN nq):=below_drewN (Below.refl _ _) _
   refine (rdelayed_any _ q g cap ts L _ _ _ _ (HRP.out.below hdr) HO.out b k hk0 (by omega)).mono ?_
   rintro e1 w2 ⟨rfl,hb2⟩
   have hbx:Below wr.heap.size wr w2:=hdr.trans (hb2.mono hdr.size)
   have hbel2:Below W0.heap.size W0 w2:=hbel.trans (hbx.mono hbel.size)
   have hbw2:Below w.heap.size w w2:=hbw.trans (hbx.mono hbw.size)
   clear hdr hb2 hbx hbel hbw c0 c1 r0 t0
   have c0:=(HR.out.below hbw2).c0
   obtain ⟨a,ha⟩:∃ a,a=rtok (tkAt ts k):=⟨_,rfl⟩
   obtain ⟨x0,x1,x2,x3⟩:=HR.out.toks.cells hbw2 (show k<ts.length by omega) a ha
   have hc:=c97 (tkAt ts k)
   rw [← ha] at hc
   have hrec:=HRC.out
   generalize delayedR ts b k=lt at hrec ⊢
   by_cases hnm:(tkAt ts k).kind=1
   ·have q1:((a.c:Int) == 97)=true:=by
     rw [show (97:Int)=((97:Nat):Int) from rfl,beq_cast,hc,hnm];rfl
    have hw:a.word=(tkAt ts k).text:=by rw [ha];unfold rtok;simp [hnm]
    obtain ⟨ee,qE⟩:∃ ee,(a.word.toList == name.toList)=ee:=⟨_,rfl⟩
    have eE:(lAt ts k == name.data.toList)=ee:=by
     rw [← qE,ByteArray.toList_eq,ByteArray.toList_eq,hw];rfl
    rw [eE,show isNm ts k=true by unfold isNm;rw [hnm];rfl,Bool.true_and] at hrec
    have HRX:=hide hrec
    have HB2:=hide (And.intro hbel2 hbw2)
    clear hrec hc hnm ha hw eE HRC
    cases ee
    ·have HR2:Hid (((List.range' (k+1) (e - (k+1))).any fun j=>isNm ts j && (lAt ts j == name.data.toList && !delayedR ts b j))=hangsR ts x name.data.toList):=hide (by rw [← HRX.out];simp)
     clear HRX
     go_wp2
     go_roundw
     case rel=>exact ⟨k+1,by omega,by omega,by go_num,by first | exact HB2.out.1 | exact below_drewN HB2.out.1 _,HR2.out⟩
     case measure=>simp [intOf];omega
    ·cases lt
     ·have HR2:Hid (hangsR ts x name.data.toList=true):=hide (by rw [← HRX.out];simp)
      clear HRX
      go_wp2
      go_ret
      exact ⟨by rw [HR2.out];rfl,by first | exact HB2.out.2 | exact below_drewN HB2.out.2 _⟩
     ·have HR2:Hid (((List.range' (k+1) (e - (k+1))).any fun j=>isNm ts j && (lAt ts j == name.data.toList && !delayedR ts b j))=hangsR ts x name.data.toList):=hide (by rw [← HRX.out];simp)
      clear HRX
      go_wp2
      go_roundw
      case rel=>exact ⟨k+1,by omega,by omega,by go_num,by first | exact HB2.out.1 | exact below_drewN HB2.out.1 _,HR2.out⟩
      case measure=>simp [intOf];omega
   ·have q1:((a.c:Int) == 97)=false:=by
     rw [show (97:Int)=((97:Nat):Int) from rfl,beq_cast,hc];exact beq_eq_false_iff_ne.2 hnm
    have hno:isNm ts k=false:=by unfold isNm;exact beq_eq_false_iff_ne.2 hnm
    have HR2:Hid (((List.range' (k+1) (e - (k+1))).any fun j=>isNm ts j && (lAt ts j == name.data.toList && !delayedR ts b j))=hangsR ts x name.data.toList):=hide (by rw [← hrec,hno];simp)
    have HB2:=hide (And.intro hbel2 hbw2)
    clear hrec hc hnm ha hno HRC
    go_wp2
    go_roundw
    case rel=>exact ⟨k+1,by omega,by omega,by go_num,by first | exact HB2.out.1 | exact below_drewN HB2.out.1 _,HR2.out⟩
    case measure=>simp [intOf];omega
  ·have ek:e - k=0:=by omega
   rw [ek] at hrec
   have HRC:=hide hrec
   have z1:¬ (k:Int)<(e:Int):=by omega
   have HBW:=hide hbw
   clear hrec ek hrp
   go_wp2_with fail
   go_quiet (fail)
   go_wp2
   go_ret
   exact ⟨by rw [← HRC.out];rfl,below_drewN HBW.out _⟩
set_option maxHeartbeats 2000000 in
set_option maxRecDepth 100000 in
theorem rcycle_any (w:World) (q g cap:Nat) (ts:List Tk) (L:List Dl) (vE vA vI vQ:Value) (h:RProg w q g cap ts L vE vA vI vQ) (ho:ROk ts L) :
  Calls Tryz.prog 45 #[.pointer (some ⟨q,0,none⟩)] w fun e w'=>e = .returned (optI (cycR ts L))∧Below w.heap.size w w':=by
 obtain ⟨hm1,hm2,hm3⟩:=ho.many
 obtain ⟨av,cv,rfl,hsh⟩:=own_shape h.eqs
 have c4:=h.c4
 have HR:=hide h
 have HO:=hide ho
 have HSH:=hide hsh
 clear h ho hsh
 go_enter Tryz.func45,Tryz.ntmps45
 go_wp2_with fail
 refine (rsquare_any w (eqL L).length hm2).mono ?_
 rintro e w1 ⟨v,rs,rfl,hrl,hown,hrows,hnd,hb1⟩
 obtain ⟨a,g2,cap2,R,rfl,hag,hmat,hRB,hg2⟩:=square_mat hrl hown hrows hnd
 have HAG:=hide hag
 have HRB:=hide hRB
 have HM1:=hide hmat
 have c4':=(HR.out.below hb1).c4
 clear hrl hown hrows hnd hag hmat hRB c4
 go_wp2
 -- the rows,marked as far as row k
 go_loopw [4] (fun i wr=>∃ (k:Nat) (M:Mx),k≤(eqL L).length∧i = .int .i64 k∧Mat wr g2 (eqL L).length R M∧Below w.heap.size w wr∧agree (eqL L).length M (fun i j=>if i<k then relR ts L i j else false)) (fun i _=>(eqL L).length - (intOf i).toNat)
 case atStart=>exact ⟨0,noM,Nat.zero_le _,rfl,HM1.out,hb1,fun i j _ _=>by simp [noM]⟩
 case round=>
  clear HM1 hb1 c4'
  obtain ⟨k,M,hk,rfl,hmat,hbel,hagr⟩:=hrel
  have c4:=(HR.out.below hbel).c4
  have HMAT:=hide hmat
  have HAGR:=hide hagr
  clear hmat hagr
  by_cases hlt:k<(eqL L).length
  ·have hag:=HAG.out (by omega)
   subst hag
   obtain ⟨gq,hgq,_,hgq2⟩:=HSH.out (by omega)
   subst hgq
   have j1:(0:Int)≤(k:Int):=by omega
   have j2:(k:Int)<((eqL L).length:Int):=by omega
   obtain ⟨x,hx⟩:∃ x,x=(eqL L)[k]'hlt:=⟨_,rfl⟩
   have HXM:Hid (x∈eqL L):=hide (by rw [hx];exact List.getElem_mem hlt)
   have HX:=hide hx
   clear hx
   go_wp2
   go_loopw [5] (fun i wr=>∃ (m:Nat) (M:Mx),m≤(eqL L).length∧i = .int .i64 m∧Mat wr g2 (eqL L).length R M∧Below w.heap.size w wr∧agree (eqL L).length M (fun i j=>if i<k∨(i=k∧j<m) then relR ts L i j else false)) (fun i _=>(eqL L).length - (intOf i).toNat)
   case atStart=>exact ⟨0,M,Nat.zero_le _,rfl,HMAT.out,hbel,fun i j hi hj=>by rw [HAGR.out i j hi hj];simp⟩
   case round=>
    clear HMAT HAGR c4 hbel
    obtain ⟨m,M2,hm,rfl,hmat,hbel,hagr⟩:=hrel
    have c4:=(HR.out.below hbel).c4
    by_cases hml:m<(eqL L).length
    ·have j3:(0:Int)≤(m:Int):=by omega
     have j4:(m:Int)<((eqL L).length:Int):=by omega
     obtain ⟨d,hd⟩:∃ d,d=rdc ts x:=⟨_,rfl⟩
     obtain ⟨y0,y1,y2,y3,y4,y5⟩:=rd_later HR.out.eqs hbel hgq2 hlt d (by rw [hd,HX.out])
     obtain ⟨z,hz⟩:∃ z,z=(eqL L)[m]'hml:=⟨_,rfl⟩
     obtain ⟨z0,_⟩:=rd_later HR.out.eqs hbel hgq2 hml (rdc ts z) (by rw [hz])
     rw [(rdc_tok ts z).2] at z0
     have o1:=hmat.outer k hlt
     have o2:=hmat.cell hlt hml
     have o3:=hmat.froz hlt m
     have HMAT:=hide hmat
     have HAGR:=hide hagr
     have HD:=hide hd
     have HREL:Hid (relR ts L k m=hangsR ts x (nameD ts z).data.toList):=hide (by unfold relR;rw [List.getElem?_eq_getElem hlt,List.getElem?_eq_getElem hml,← HX.out,← hz])
     generalize nameD ts z=nm at z0 HREL
     clear hmat hagr hd hz
     have HRP:=hide (HR.out.below hbel)
     have HBL:=hide hbel
     have HCALL:Hid (∀ W,RProg W q g cap ts L vE vA vI (.slice (some ⟨gq,0,none⟩) (eqL L).length cv)→Calls Tryz.prog 75 #[.pointer (some ⟨q,0,none⟩),.agg #[.string d.name,.int .i64 (d.tok:Int),.bool d.input,.bool d.truth,.int .i64 (d.place:Int),.int .i64 (d.body:Int)],.string nm] W fun e w'=>e = .returned (.bool (hangsR ts x nm.data.toList))∧Below W.heap.size W w'):=hide (fun W hW=>by
      have hd:=HD.out
      subst hd
      exact rhangs_any W q g cap ts L _ _ _ _ hW HO.out x HXM.out nm)
     have l1:=HRP.out.lt
     have l2:gq<wr.heap.size:=by have:=hbel.size;omega
     have l3:=HMAT.out.lt (show 0<(eqL L).length by omega)
     have l4:=World.rowIs.lt (HMAT.out.rows k hlt)
     generalize hangsR ts x nm.data.toList=hg at HREL HCALL
     have lk:=HRB.out k hlt
     have lq:=HR.out.lt
     have n1:R k≠q:=by omega
     have n2:R k≠gq:=by omega
     have n3:R k≠g2:=HMAT.out.ne k hlt
     have n1':q≠R k:=by omega
     have n2':gq≠R k:=by omega
     have n3':g2≠R k:=Ne.symm n3
     go_wp2_with fail
     go_region_held3 (fun w'=>w'.cell? ⟨q,4,none⟩=some (.slice (some ⟨gq,0,none⟩) (eqL L).length cv)∧w'.cell? ⟨gq,k * 6,none⟩=some (.string d.name)∧w'.cell? ⟨gq,k * 6+1,none⟩=some (.int .i64 (d.tok:Int))∧w'.cell? ⟨gq,k * 6+2,none⟩=some (.bool d.input)∧w'.cell? ⟨gq,k * 6+3,none⟩=some (.bool d.truth)∧w'.cell? ⟨gq,k * 6+4,none⟩=some (.int .i64 (d.place:Int))∧w'.cell? ⟨gq,k * 6+5,none⟩=some (.int .i64 (d.body:Int))∧w'.cell? ⟨gq,m * 6,none⟩=some (.string nm)∧w'.cell? ⟨g2,k,none⟩=some (.slice (some ⟨R k,0,none⟩) (eqL L).length (eqL L).length)) (first | go_keep | exact ⟨(World.cell?_setCell_other _ _ _ _ (fun e=>n1 (congrArg Addr.block e))).trans t0,(World.cell?_setCell_other _ _ _ _ (fun e=>n2 (congrArg Addr.block e))).trans t1,(World.cell?_setCell_other _ _ _ _ (fun e=>n2 (congrArg Addr.block e))).trans t2,(World.cell?_setCell_other _ _ _ _ (fun e=>n2 (congrArg Addr.block e))).trans t3,(World.cell?_setCell_other _ _ _ _ (fun e=>n2 (congrArg Addr.block e))).trans t4,(World.cell?_setCell_other _ _ _ _ (fun e=>n2 (congrArg Addr.block e))).trans t5,(World.cell?_setCell_other _ _ _ _ (fun e=>n2 (congrArg Addr.block e))).trans t6,(World.cell?_setCell_other _ _ _ _ (fun e=>n2 (congrArg Addr.block e))).trans t7,(World.cell?_setCell_other _ _ _ _ (fun e=>n3 (congrArg Addr.block e))).trans t8⟩)
      ((go_at_call 75;refine (HCALL.out _ (HRP.out.below ((Below.refl _ _).drew))).mono ?_;rintro e w2 ⟨rfl,hbF⟩;have t0:=(hbF.cell (p:=⟨q,4,none⟩) l1).trans c4;have t1:=(hbF.cell (p:=⟨gq,k * 6,none⟩) l2).trans y0;have t2:=(hbF.cell (p:=⟨gq,k * 6+1,none⟩) l2).trans y1;have t3:=(hbF.cell (p:=⟨gq,k * 6+2,none⟩) l2).trans y2;have t4:=(hbF.cell (p:=⟨gq,k * 6+3,none⟩) l2).trans y3;have t5:=(hbF.cell (p:=⟨gq,k * 6+4,none⟩) l2).trans y4;have t6:=(hbF.cell (p:=⟨gq,k * 6+5,none⟩) l2).trans y5;have t7:=(hbF.cell (p:=⟨gq,m * 6,none⟩) l2).trans z0;have t8:=(hbF.cell (p:=⟨g2,k,none⟩) l3).trans o1;have t9:=(hbF.cell (p:=⟨R k,m,none⟩) l4).trans o2;have tf:=(hbF.frozen (p:=⟨R k,m,none⟩) l4).trans o3))
     rename_i hHeld
     clear hHeld
     have HM2:Hid (Mat w2 g2 (eqL L).length R M2):=hide (HMAT.out.keep (hbF.block g2 l3) (fun i hi=>hbF.block (R i) (World.rowIs.lt (HMAT.out.rows i hi))))
     have HB2:Hid (Below w.heap.size w w2):=hide (HBL.out.drew.trans (hbF.mono HBL.out.size))
     clear hbF t0 t1 t2 t3 t4 t5 t6 t7 t8 t9 tf y0 y1 y2 y3 y4 y5 z0 o1 o2 o3 c4
     go_wp2
     go_roundw
     case rel=>
      refine ⟨m+1,upd M2 k m hg,by omega,by go_num,HM2.out.set hlt m hg,HB2.out.setCell lk _,fun i j hi hj=>?_⟩
      show upd M2 k m hg i j=if i<k∨(i=k∧j<m+1) then relR ts L i j else false
      unfold upd
      by_cases e:i=k∧j=m
      ·obtain ⟨rfl,rfl⟩:=e
       rw [if_pos ⟨rfl,rfl⟩,if_pos (by omega)];exact HREL.out.symm
      ·rw [if_neg e,HAGR.out i j hi hj]
       show (if i<k∨(i=k∧j<m) then relR ts L i j else false)=_
       by_cases e2:i<k∨(i=k∧j<m)
       ·rw [if_pos e2,if_pos (by omega)]
       ·rw [if_neg e2,if_neg (by omega)]
     case measure=>simp [intOf];omega
    ·have HMAT:=hide hmat
     have HAGR:=hide hagr
     clear hmat hagr
     go_wp2
     go_roundw
     case rel=>exact ⟨k+1,M2,by omega,by go_num,HMAT.out,hbel,fun i j hi hj=>by
      rw [HAGR.out i j hi hj]
      show (if i<k∨(i=k∧j<m) then relR ts L i j else false)=if i<k+1 then relR ts L i j else false
      by_cases e:i<k∨(i=k∧j<m)
      ·rw [if_pos e,if_pos (by omega)]
      ·rw [if_neg e,if_neg (by omega)]⟩
     case measure=>simp [intOf];omega
  ·have ek:k=(eqL L).length:=by omega
   subst ek
   have HMR:Hid (Mat wr g2 (eqL L).length R (relR ts L)):=hide (HMAT.out.congr (fun i j hi hj=>by rw [HAGR.out i j hi hj];show (if i<(eqL L).length then _ else _)=_;rw [if_pos hi]))
   have z1:¬ ((eqL L).length:Int)<((eqL L).length:Int):=by omega
   clear HMAT HAGR
   go_wp2_with fail
   refine (rcircles_any wr a g2 (eqL L).length cap2 w.heap.size R (relR ts L) HMR.out HAG.out hm2 hbel.size HRB.out).mono ?_
   rintro e2 w2 ⟨G,rfl,hG,hrow,hb2⟩
   have hbel2:Below w.heap.size w w2:=hbel.trans hb2
   have HCY:Hid (firstC ts (warsh (relR ts L) (eqL L).length) 0 ((eqL L).drop 0)=cycR ts L):=hide rfl
   generalize warsh (relR ts L) (eqL L).length=W at hrow HCY
   have c4'':=(HR.out.below hbel2).c4
   have HROW:=hide hrow
   clear hrow hb2 hbel c4 HMR
   go_wp2
   go_loopw [7] (fun i wx=>∃ m:Nat,m≤(eqL L).length∧i = .int .i64 m∧wx.rowIs G 4 (eqL L).length (fun i=>.bool (W i i))∧Below w.heap.size w wx∧firstC ts W m ((eqL L).drop m)=cycR ts L) (fun i _=>(eqL L).length - (intOf i).toNat)
   case atStart=>exact ⟨0,Nat.zero_le _,rfl,HROW.out,hbel2,HCY.out⟩
   case round=>
    clear HROW hbel2 c4'' HCY
    obtain ⟨m,hm,rfl,hrow,hbel,hrec⟩:=hrel
    have c4:=(HR.out.below hbel).c4
    by_cases hml:m<(eqL L).length
    ·obtain ⟨gq,hgq,_,hgq2⟩:=HSH.out (by omega)
     subst hgq
     obtain ⟨x,hx⟩:∃ x,x=(eqL L)[m]'hml:=⟨_,rfl⟩
     have hxm:x∈L:=(HO.out.eq (by rw [hx];exact List.getElem_mem hml)).1
     have ht:=HO.out.tok hxm
     have hpos:=rdc_pos ts x
     obtain ⟨y0,y1,y2,y3,y4,y5⟩:=rd_later HR.out.eqs hbel hgq2 hml (rdc ts x) (by rw [hx])
     rw [List.drop_eq_getElem_cons hml,← hx] at hrec
     simp only [firstC] at hrec
     have r1:=hrow.cell hml
     have HRC:=hide hrec
     have HRW:=hide hrow
     have HRP:=hide (HR.out.below hbel)
     have HPX:=hide hpos
     have HTX:=hide ht
     have j3:(0:Int)≤(m:Int):=by omega
     have j4:(m:Int)<((eqL L).length:Int):=by omega
     generalize rdc ts x=d at y0 y1 y2 y3 y4 y5 HPX HTX
     generalize W m m=b at r1 HRC
     clear hrec hrow hxm ht hx hpos
     cases b
     ·have HR2:Hid (firstC ts W (m+1) ((eqL L).drop (m+1))=cycR ts L):=hide (by rw [← HRC.out];simp)
      clear HRC
      go_wp2
      go_roundw
      case rel=>exact ⟨m+1,by omega,by go_num,HRW.out,hbel,HR2.out⟩
      case measure=>simp [intOf];omega
     ·have HR2:Hid (cycR ts L=some (posD ts x)):=hide (by rw [← HRC.out];simp)
      clear HRC
      go_wp2_with fail
      refine (rplace_any _ q g cap ts L _ _ _ _ HRP.out d HTX.out).mono ?_
      rintro e3 w3 ⟨rfl,hb3⟩
      rw [HPX.out]
      go_wp2
      go_ret
      exact ⟨by rw [HR2.out];rfl,hbel.trans (hb3.mono hbel.size)⟩
    ·have em:m=(eqL L).length:=by omega
     subst em
     rw [List.drop_length] at hrec
     have HRC:=hide hrec
     have z2:¬ ((eqL L).length:Int)<((eqL L).length:Int):=by omega
     clear hrec hrow
     go_wp2
     go_ret
     exact ⟨by rw [← HRC.out];rfl,hbel⟩
end Go.Proofs.YtecegaflhdgfaaaGreat
