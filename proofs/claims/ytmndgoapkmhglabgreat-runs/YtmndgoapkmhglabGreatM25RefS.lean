import Derived.Test.YtmndgoapkmhglabGreatM20OpC
import Derived.Test.YtmndgoapkmhglabGreatM24RefR
namespace Go.Proofs.YtmndgoapkmhglabGreat
open Go.RowKit
attribute [local go_sem ↓] Go.wp_at_zero Go.wp_at_succ
set_option maxHeartbeats 2000000 in
set_option maxRecDepth 100000 in
theorem pfull_any {w:World}{X:Nat→Prop}{b:Nat}{aW:Option Addr}{n cW:Nat}{vE vV:Value}{F:Nat→WrF}{nx:Nat→Nat}{hd:Nat→Bool} (h:Scn w X b aW n cW vE vV F nx hd) (o:OpF) :
  Calls Tryz.prog 65 #[.pointer (some ⟨b,0,none⟩),.agg #[.int .i64 o.k,.int .i64 o.a,.int .i64 o.b,.int .i64 o.c]] w fun e w'=>e = .returned (.bool ((List.range n).all fun l=>!decide ((F l).dst=o.k) || (F l).full))∧Below w.heap.size w w':=by
 obtain ⟨w0,hw0⟩:∃ w0,w0=w.alloc (.cells #[.int .i64 o.k,.int .i64 o.a,.int .i64 o.b,.int .i64 o.c] 49):=⟨_,rfl⟩
 have hb0:Below w.heap.size w w0:=by rw [hw0];exact (Below.refl _ _).alloc (Nat.le_refl _) _
 have hA:ActAt w0 w.heap.size o:=by rw [hw0];exact ActAt.boxed w o
 have hs0:=h.below hb0
 have c2:=hs0.c2
 have hfew:=h.few
 have HA:=hide hA
 have HS:=hide hs0
 have HB0:=hide hb0
 rw [hw0] at c2
 have HW0:=hide hw0
 clear hb0 hA hs0 h hw0
 go_enter Tryz.func65,Tryz.ntmps65
 go_wp2
 go_loopw [12] (fun vi wr=>∃ l:Nat,l≤n∧vi = .int .i64 l∧Below w0.heap.size w0 wr∧((List.range l).all fun l=>!decide ((F l).dst=o.k) || (F l).full)=true) (fun vi _=>n - (intOf vi).toNat)
 case atStart=>exact ⟨0,Nat.zero_le _,rfl,by rw [HW0.out];exact Below.refl _ _,rfl⟩
 case round=>
  obtain ⟨l,hl,rfl,hbr,hall⟩:=hrel
  have HAL:=hide hall
  have HBR:=hide hbr
  have HWR:Hid (Below w.heap.size w wr):=hide (HB0.out.trans (hbr.mono HB0.out.size))
  clear hall c2
  by_cases hil:l<n
  ·obtain ⟨g,rfl,hW,hne⟩:=(HS.out.below hbr).wi (by omega)
   obtain ⟨x0,x1,x2,x3,x4,x5⟩:=hW.cells hil
   have k0:∀ u,(wr.alloc u).cell? ⟨w.heap.size,0,none⟩=some (.int .i64 o.k):=fun u=>(((hbr.alloc hbr.size u).cell (p:=⟨w.heap.size,0,none⟩) HA.out.lt).trans HA.out.cells.1)
   have j3:(0:Int)≤(l:Int):=by omega
   have j4:(l:Int)<(n:Int):=by omega
   have HST:=hide (@all_step l (fun l=>!decide ((F l).dst=o.k) || (F l).full) HAL.out)
   have HFL:Hid ((!decide ((F l).dst=o.k) || (F l).full)=false→((List.range n).all fun l=>!decide ((F l).dst=o.k) || (F l).full)=false):=hide (fun e=>all_fail hil e)
   clear hW hbr
   obtain ⟨p1,hp1⟩:∃ p1,((F l).dst == o.k)=p1:=⟨_,rfl⟩
   have hd1:decide ((F l).dst=o.k)=p1:=by rw [← hp1];rfl
   rw [hd1] at HST HFL
   clear hd1
   cases p1 with
   | false=>
    go_wp2
    go_roundw
    case rel=>exact ⟨l+1,by omega,by go_num,HBR.out.alloc HBR.out.size _,HST.out rfl⟩
    case measure=>simp [intOf];omega
   | true=>
    obtain ⟨fl,hfl⟩:∃ fl,(F l).full=fl:=⟨_,rfl⟩
    rw [hfl] at HST HFL x2
    clear hfl
    cases fl with
    | false=>
     go_wp2
     go_ret
     exact ⟨by rw [HFL.out rfl];rfl,HWR.out.alloc HWR.out.size _⟩
    | true=>
     go_wp2
     go_roundw
     case rel=>exact ⟨l+1,by omega,by go_num,HBR.out.alloc HBR.out.size _,HST.out rfl⟩
     case measure=>simp [intOf];omega
  ·have ek:l=n:=by omega
   subst ek
   clear hbr
   go_wp2
   go_ret
   exact ⟨by rw [HAL.out];rfl,HWR.out⟩
set_option maxHeartbeats 2000000 in
set_option maxRecDepth 100000 in
theorem pfree_any {w:World}{X:Nat→Prop}{b:Nat}{aW:Option Addr}{n cW:Nat}{vE vV:Value}{F:Nat→WrF}{nx:Nat→Nat}{hd:Nat→Bool} (h:Scn w X b aW n cW vE vV F nx hd) (o:OpF) :
  Calls Tryz.prog 67 #[.pointer (some ⟨b,0,none⟩),.agg #[.int .i64 o.k,.int .i64 o.a,.int .i64 o.b,.int .i64 o.c]] w fun e w'=>e = .returned (.bool ((List.range n).all fun l=>!decide ((F l).src=o.k) || (!(F l).unt && decide ((F l).known≤o.a))))∧Below w.heap.size w w':=by
 obtain ⟨w0,hw0⟩:∃ w0,w0=w.alloc (.cells #[.int .i64 o.k,.int .i64 o.a,.int .i64 o.b,.int .i64 o.c] 49):=⟨_,rfl⟩
 have hb0:Below w.heap.size w w0:=by rw [hw0];exact (Below.refl _ _).alloc (Nat.le_refl _) _
 have hA:ActAt w0 w.heap.size o:=by rw [hw0];exact ActAt.boxed w o
 have hs0:=h.below hb0
 have c2:=hs0.c2
 have hfew:=h.few
 have HA:=hide hA
 have HS:=hide hs0
 have HB0:=hide hb0
 rw [hw0] at c2
 have HW0:=hide hw0
 clear hb0 hA hs0 h hw0
 go_enter Tryz.func67,Tryz.ntmps67
 go_wp2
 go_loopw [12] (fun vi wr=>∃ l:Nat,l≤n∧vi = .int .i64 l∧Below w0.heap.size w0 wr∧((List.range l).all fun l=>!decide ((F l).src=o.k) || (!(F l).unt && decide ((F l).known≤o.a)))=true) (fun vi _=>n - (intOf vi).toNat)
 case atStart=>exact ⟨0,Nat.zero_le _,rfl,by rw [HW0.out];exact Below.refl _ _,rfl⟩
 case round=>
  obtain ⟨l,hl,rfl,hbr,hall⟩:=hrel
  have HAL:=hide hall
  have HBR:=hide hbr
  have HWR:Hid (Below w.heap.size w wr):=hide (HB0.out.trans (hbr.mono HB0.out.size))
  clear hall c2
  by_cases hil:l<n
  ·obtain ⟨g,rfl,hW,hne⟩:=(HS.out.below hbr).wi (by omega)
   obtain ⟨x0,x1,x2,x3,x4,x5⟩:=hW.cells hil
   have k0:∀ u,(wr.alloc u).cell? ⟨w.heap.size,0,none⟩=some (.int .i64 o.k):=fun u=>(((hbr.alloc hbr.size u).cell (p:=⟨w.heap.size,0,none⟩) HA.out.lt).trans HA.out.cells.1)
   have k1:∀ u,(wr.alloc u).cell? ⟨w.heap.size,1,none⟩=some (.int .i64 o.a):=fun u=>(((hbr.alloc hbr.size u).cell (p:=⟨w.heap.size,1,none⟩) HA.out.lt).trans HA.out.cells.2.1)
   have j3:(0:Int)≤(l:Int):=by omega
   have j4:(l:Int)<(n:Int):=by omega
   have HST:=hide (@all_step l (fun l=>!decide ((F l).src=o.k) || (!(F l).unt && decide ((F l).known≤o.a))) HAL.out)
   have HFL:Hid ((!decide ((F l).src=o.k) || (!(F l).unt && decide ((F l).known≤o.a)))=false→((List.range n).all fun l=>!decide ((F l).src=o.k) || (!(F l).unt && decide ((F l).known≤o.a)))=false):=hide (fun e=>all_fail hil e)
   clear hW hbr
   obtain ⟨p1,hp1⟩:∃ p1,((F l).src == o.k)=p1:=⟨_,rfl⟩
   have hd1:decide ((F l).src=o.k)=p1:=by rw [← hp1];rfl
   rw [hd1] at HST HFL
   clear hd1
   cases p1 with
   | false=>
    go_wp2
    go_roundw
    case rel=>exact ⟨l+1,by omega,by go_num,HBR.out.alloc HBR.out.size _,HST.out rfl⟩
    case measure=>simp [intOf];omega
   | true=>
    obtain ⟨fl,hfl⟩:∃ fl,(F l).unt=fl:=⟨_,rfl⟩
    rw [hfl] at HST HFL x3
    clear hfl
    cases fl with
    | true=>
     go_wp2
     go_ret
     exact ⟨by rw [HFL.out rfl];rfl,HWR.out.alloc HWR.out.size _⟩
    | false=>
     by_cases hkn:(F l).known≤o.a
     ·have hkn':¬ (F l).known > o.a:=by omega
      rw [decide_eq_true hkn] at HST
      clear hkn HFL
      go_wp2
      go_roundw
      case rel=>exact ⟨l+1,by omega,by go_num,HBR.out.alloc HBR.out.size _,HST.out rfl⟩
      case measure=>simp [intOf];omega
     ·have hkn':(F l).known > o.a:=by omega
      rw [decide_eq_false hkn] at HFL
      clear hkn HST
      go_wp2
      go_ret
      exact ⟨by rw [HFL.out rfl];rfl,HWR.out.alloc HWR.out.size _⟩
  ·have ek:l=n:=by omega
   subst ek
   clear hbr
   go_wp2
   go_ret
   exact ⟨by rw [HAL.out];rfl,HWR.out⟩
set_option maxHeartbeats 2000000 in
set_option maxRecDepth 100000 in
theorem rwrong_any (q g cap:Nat) (ts:List Tk) (L:List Dl) (vE vA vI vQ:Value) (ho:ROk ts L) (hp:∀ i,(tkAt ts i).pos≤1500):∀ (n:Nat) (t:Ast) (i wt:Nat) (w:World),t.size≤n→RProg w q g cap ts L vE vA vI vQ→Sp ts t i→i+t.len<ts.length→
  Calls Tryz.prog 74 #[.pointer (some ⟨q,0,none⟩),.int .i64 (i:Int),.int .u8 (wt:Int)] w fun e w'=>e = .returned (optI (wrongR ts L t i wt))∧Below w.heap.size w w':=by
 intro n
 induction n with
 | zero=>intro t i wt w hn;have:=t.size_pos;omega
 | succ n ih=>
  intro t i wt w hn h hs hl
  have hlen:=ho.len
  have hpo:=hp i
  have hil:i<ts.length:=by omega
  have HIS:=hide (fun W hW=>ris_any W q g cap ts L vE vA vI vQ hW ho t i hs hl)
  have HPA:=hide (fun W hW=>rparts_any W q g cap ts L vE vA vI vQ hW ho t i wt hs hl)
  have hpk:=parts_ok ho.F (w:=wt) hs hl
  have hwr:=wrongR_parts ts L t i wt
  obtain ⟨a,ha⟩:∃ a,a=rtok (tkAt ts i):=⟨_,rfl⟩
  have HPO:Hid ((tkAt ts i).pos=a.pos):=hide (by rw [ha];rfl)
  have HTC:=hide (fun W hW=>(h.toks.cells (wr:=W) hW hil a ha))
  have HR:=hide h
  have HIH:=hide ih
  have HPK:=hide hpk
  have j1:(0:Int)≤(i:Int):=by omega
  have j2:(i:Int)<(ts.length:Int):=by omega
  have hps:(partsR ts t i wt).length≤3:=by cases t <;> simp [partsR]
  generalize partsR ts t i wt=ps at HPA HPK hwr hps
  clear h hs hpk ih ha
  by_cases hb:badR ts L i wt=true
  ·rw [hb,if_pos rfl] at hwr
   have hb':isR ts L i≠63∧isR ts L i≠wt:=by
    unfold badR at hb
    rw [Bool.and_eq_true,bne_iff_ne,bne_iff_ne] at hb
    exact hb
   have HWR:Hid (wrongR ts L t i wt=some a.pos):=hide (by rw [hwr,HPO.out])
   have q1:((isR ts L i:Int) != 63)=true:=by rw [bne_iff_ne];omega
   have q2:((isR ts L i:Int) != (wt:Int))=true:=by rw [bne_iff_ne];omega
   generalize isR ts L i=r at q1 q2 HIS
   clear hwr hb hb'
   go_enter Tryz.func74,Tryz.ntmps74
   go_wp2_with fail
   refine (HIS.out w HR.out).mono ?_
   rintro e w1 ⟨rfl,hb1⟩
   have c0:=(HR.out.below hb1).c0
   have x2:=(HTC.out w1 hb1).2.2.1
   go_wp2
   go_ret
   exact ⟨by rw [HWR.out];rfl,hb1⟩
  ·have hbf:badR ts L i wt=false:=by simpa using hb
   rw [hbf,if_neg (by simp)] at hwr
   have hcs:((isR ts L i:Int) != 63)=false∨(((isR ts L i:Int) != 63)=true∧((isR ts L i:Int) != (wt:Int))=false):=by
    unfold badR at hbf
    by_cases e:isR ts L i=63
    ·left;rw [e];rfl
    ·right
     have e2:isR ts L i=wt:=by
      rw [Bool.and_eq_false_iff] at hbf
      rcases hbf with h | h
      ·rw [bne_eq_false_iff_eq] at h;exact absurd h e
      ·rw [bne_eq_false_iff_eq] at h;exact h
     exact ⟨by rw [bne_iff_ne];omega,by rw [e2];simp⟩
   have HWR:=hide hwr
   generalize isR ts L i=r at hcs HIS
   clear hwr hb hbf
   rcases hcs with q1 | ⟨q1,q2⟩
   all_goals
    go_enter Tryz.func74,Tryz.ntmps74
    go_wp2_with fail
    refine (HIS.out w HR.out).mono ?_
    rintro e w1 ⟨rfl,hb1⟩
    go_wp2_with fail
    refine (HPA.out w1 (HR.out.below hb1)).mono ?_
    rintro e w2 ⟨vl,vw,rfl,hol,how,hb2⟩
    have hbw2:Below w.heap.size w w2:=hb1.trans (hb2.mono hb1.size)
    obtain ⟨al,cl,rfl,hshl⟩:=own_shape hol
    obtain ⟨aw,cw,rfl,hshw⟩:=own_shape how
    have HL:=hide (And.intro hol hshl)
    have HW:=hide (And.intro how hshw)
    clear hol how hshl hshw hb1 hb2
    go_wp2
    go_loopw [10] (fun vk wx=>∃ m:Nat,m≤ps.length∧vk = .int .i64 m∧Below w2.heap.size w2 wx∧(ps.drop m).findSome? (fun p=>wrongR ts L p.t p.i p.w)=wrongR ts L t i wt) (fun vk _=>ps.length - (intOf vk).toNat)
    case atStart=>exact ⟨0,Nat.zero_le _,rfl,Below.refl _ _,HWR.out.symm⟩
    case round=>
     obtain ⟨m,hm,rfl,hbx,hrec⟩:=hrel
     have hbwx:Below w.heap.size w wr:=hbw2.trans (hbx.mono hbw2.size)
     have HRP:=hide (HR.out.below hbwx)
     by_cases hml:m<ps.length
     ·obtain ⟨gl,rfl,_,hgl⟩:=HL.out.2 (by omega)
      obtain ⟨gw,rfl,_,hgw⟩:=HW.out.2 (by omega)
      obtain ⟨p,hp'⟩:∃ p,p=ps[m]'hml:=⟨_,rfl⟩
      obtain ⟨k1,k2,k3⟩:=HPK.out p (by rw [hp'];exact List.getElem_mem hml)
      have l1:wr.cell? ⟨gl,m,none⟩=some (.int .i64 (p.i:Int)):=by
       rw [hbx.cell (p:=⟨gl,m,none⟩) hgl,HL.out.1.cellAt m (by omega)]
       unfold pCells
       rw [List.getElem?_map,List.getElem?_map,List.getElem?_eq_getElem hml,← hp'];rfl
      have l2:wr.cell? ⟨gw,m,none⟩=some (.int .u8 (p.w:Int)):=by
       rw [hbx.cell (p:=⟨gw,m,none⟩) hgw,HW.out.1.cellAt m (by omega)]
       unfold wCells
       rw [List.getElem?_map,List.getElem?_map,List.getElem?_eq_getElem hml,← hp'];rfl
      rw [List.drop_eq_getElem_cons hml,← hp',List.findSome?_cons] at hrec
      have HRC:=hide hrec
      have j3:(0:Int)≤(m:Int):=by omega
      have j4:(m:Int)<(ps.length:Int):=by omega
      have HCALL:=hide (fun W hW=>HIH.out p.t p.i p.w W (by omega) hW k1 k2)
      have HV:Hid (∀ v,wrongR ts L p.t p.i p.w=some v→wrongR ts L t i wt=some v):=hide (fun v hv=>by
       have h:=HRC.out
       rw [hv] at h
       exact h.symm)
      have HN:Hid (wrongR ts L p.t p.i p.w=none→(ps.drop (m+1)).findSome? (fun p=>wrongR ts L p.t p.i p.w)=wrongR ts L t i wt):=hide (fun hv=>by
       have h:=HRC.out
       rw [hv] at h
       exact h)
      generalize wrongR ts L p.t p.i p.w=o at HCALL HV HN
      generalize p.i=pi at l1 HCALL
      generalize p.w=pw at l2 HCALL
      clear hrec hp' k1 k2 k3 HRC
      have g1:gl<wr.heap.size:=by have:=hbx.size;omega
      have g2':gw<wr.heap.size:=by have:=hbx.size;omega
      go_wp2_with fail
      go_region_held3 (fun w'=>w'.cell? ⟨gl,m,none⟩=some (.int .i64 (pi:Int))∧w'.cell? ⟨gw,m,none⟩=some (.int .u8 (pw:Int))) (go_keep)
       ((go_at_call 74;refine (HCALL.out _ (HRP.out.below ((Below.refl _ _).drew))).mono ?_;rintro e w3 ⟨rfl,hb3⟩;have t1:=(hb3.cell (p:=⟨gl,m,none⟩) g1).trans l1;have t2:=(hb3.cell (p:=⟨gw,m,none⟩) g2').trans l2))
      rename_i hHeld
      clear hHeld
      have HB3:Hid (Below w2.heap.size w2 w3):=hide (hbx.drew.trans (hb3.mono hbx.size))
      have HB4:Hid (Below w.heap.size w w3):=hide (hbwx.drew.trans (hb3.mono hbwx.size))
      clear hb3 t1 t2
      cases o with
      | none=>
       have HN2:=hide (HN.out rfl)
       simp only [optI]
       clear HV HN HCALL
       go_wp2
       go_roundw
       case rel=>exact ⟨m+1,by omega,by go_num,HB3.out,HN2.out⟩
       case measure=>simp [intOf];omega
      | some v=>
       have HV2:=hide (HV.out v rfl)
       simp only [optI]
       have z1:(0:Int)≤(v:Int):=by omega
       clear HV HN HCALL
       go_wp2
       go_ret
       exact ⟨by rw [HV2.out];rfl,HB4.out⟩
     ·have em:m=ps.length:=by omega
      subst em
      rw [List.drop_length] at hrec
      have HRC:Hid (wrongR ts L t i wt=none):=hide hrec.symm
      have z1:¬ (ps.length:Int)<(ps.length:Int):=by omega
      clear hrec
      go_wp2
      go_ret
      exact ⟨by rw [HRC.out];rfl,hbwx⟩
end Go.Proofs.YtmndgoapkmhglabGreat
