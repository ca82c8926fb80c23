import Derived.ArgAppend
import Derived.Test.YtmndgoapkmhglaaGreatM20OpC
import Derived.Test.YtmndgoapkmhglaaGreatM23WrC
import Derived.Test.YtmndgoapkmhglaaGreatM24SvB
import Derived.Test.YtmndgoapkmhglaaGreatM34LawPk
namespace Go.Proofs.YtmndgoapkmhglaaGreat
theorem read_zero {ts:List Tk}{L:List Dl} (h:(readR ts L).1=0):manyR ts L=none∧namesR ts L=none∧typesR ts L=none∧cycR ts L=none∧lpR ts L=none:=by
 unfold readR at h
 cases h1:manyR ts L with
 | some a=>rw [h1] at h;cases h
 | none=>
  cases h2:namesR ts L with
  | some a=>rw [h1,h2] at h;cases h
  | none=>
   cases h3:typesR ts L with
   | some a=>rw [h1,h2,h3] at h;cases h
   | none=>
    cases h4:cycR ts L with
    | some a=>rw [h1,h2,h3,h4] at h;cases h
    | none=>
     cases h5:lpR ts L with
     | some a=>rw [h1,h2,h3,h4,h5] at h;cases h
     | none=>exact ⟨rfl,rfl,rfl,rfl,rfl⟩
theorem text_small {s:ByteArray} (h:(textF s).1≠1):s.size≤1500:=by
 by_cases hs:1500<s.size
 ·unfold textF at h;rw [if_pos hs] at h;exact absurd rfl h
 ·omega
theorem rok_of {s:ByteArray}{L:List Dl} (hs:s.size≤1500) (h:Spell (toks s) L 0):ROk (toks s) L:=
 ⟨toks_F s,toks_end s,(toks_ok s hs).1,(toks_ok s hs).pos,h⟩
theorem good_text {s:ByteArray} (h:(textF s).1=0):∃ L,RGood s L∧Right (toks s) L∧ROk (toks s) L:=by
 have hs:=text_small (s:=s) (by omega)
 rcases text_read s hs with ⟨k,_,ht,_⟩ | ⟨L,hsp,_,ht,hp⟩
 ·rw [ht] at h;cases h
 ·rw [ht] at h
  obtain ⟨h1,h2,h3,h4,h5⟩:=read_zero h
  exact ⟨L,⟨h1,h2,h3,h4,h5,hsp,hp⟩,right_of (toks_F s) hsp h1 h2 h4,rok_of hs hsp⟩
end Go.Proofs.YtmndgoapkmhglaaGreat
namespace Go.Proofs.YtmndgoapkmhglaaGreat
open Go.RowKit
def OpsAt (w:World) (v:Value) (ops:List OpF):Prop:=
 ∃ (A:Option Addr) (C:Nat),v = .slice A ops.length C∧ops.length≤4398046511104∧(0<ops.length→∃ b o,A=some ⟨b,o,none⟩∧b<w.heap.size∧∀ i,(h:i<ops.length)→
  w.cell? ⟨b,o+i * 4,none⟩=some (.int .i64 ops[i].k)∧w.cell? ⟨b,o+i * 4+1,none⟩=some (.int .i64 ops[i].a)∧w.cell? ⟨b,o+i * 4+2,none⟩=some (.int .i64 ops[i].b)∧w.cell? ⟨b,o+i * 4+3,none⟩=some (.int .i64 ops[i].c))
theorem OpsAt.below {w w':World}{v:Value}{ops:List OpF} (h:OpsAt w v ops) (hb:Below w.heap.size w w'):OpsAt w' v ops:=by
 obtain ⟨A,C,hv,hm,hc⟩:=h
 refine ⟨A,C,hv,hm,fun hp=>?_⟩
 obtain ⟨b,o,h1,h2,h3⟩:=hc hp
 refine ⟨b,o,h1,Nat.lt_of_lt_of_le h2 hb.size,fun i hi=>?_⟩
 obtain ⟨k0,k1,k2,k3⟩:=h3 i hi
 exact ⟨(hb.cell (p:=⟨b,o+i * 4,none⟩) h2).trans k0,(hb.cell (p:=⟨b,o+i * 4+1,none⟩) h2).trans k1,(hb.cell (p:=⟨b,o+i * 4+2,none⟩) h2).trans k2,(hb.cell (p:=⟨b,o+i * 4+3,none⟩) h2).trans k3⟩
end Go.Proofs.YtmndgoapkmhglaaGreat
namespace Go.Proofs.YtmndgoapkmhglaaGreat
open Go.RowKit
attribute [local go_sem ↓] Go.wp_at_zero Go.wp_at_succ
structure CodeAt (w:World) (vO vC vN vU:Value) (c:CdF):Prop where
 ops:OpsAt w vO c.ops
 cells:RowAt w vC c.cells
 next:RowAt w vN c.next
 out:RowAt w vU c.out
theorem CodeAt.below {w w':World}{vO vC vN vU:Value}{c:CdF} (h:CodeAt w vO vC vN vU c) (hb:Below w.heap.size w w'):CodeAt w' vO vC vN vU c:=
 ⟨h.ops.below hb,h.cells.below hb,h.next.below hb,h.out.below hb⟩
theorem rreads_any (w:World) (k:Int) :
  Calls Tryz.prog 52 #[.int .i64 k] w fun e w'=>e = .returned (.int .i64 (readsF k:Nat))∧w=w':=by
 by_cases h1:k<5
 ·have HF:Hid (readsF k=0):=hide (by unfold readsF;rw [if_pos h1])
  go_enter Tryz.func52,Tryz.ntmps52
  go_wp2
  go_ret
  exact ⟨by rw [HF.out];rfl,rfl⟩
 by_cases h2:k=13
 ·have HF:Hid (readsF k=1):=hide (by unfold readsF;rw [if_neg h1,if_pos h2])
  have q:(k == 13)=true:=by rw [h2];rfl
  clear h2
  go_enter Tryz.func52,Tryz.ntmps52
  go_wp2
  go_ret
  exact ⟨by rw [HF.out];rfl,rfl⟩
 have q1:(k == 13)=false:=by rw [beq_eq_false_iff_ne];exact h2
 by_cases h3:k=14
 ·have HF:Hid (readsF k=3):=hide (by unfold readsF;rw [if_neg h1,if_neg h2,if_pos h3])
  have q:(k == 14)=true:=by rw [h3];rfl
  clear h3 h2
  go_enter Tryz.func52,Tryz.ntmps52
  go_wp2
  go_ret
  exact ⟨by rw [HF.out];rfl,rfl⟩
 have q2:(k == 14)=false:=by rw [beq_eq_false_iff_ne];exact h3
 have HF:Hid (readsF k=2):=hide (by unfold readsF;rw [if_neg h1,if_neg h2,if_neg h3])
 clear h2 h3
 go_enter Tryz.func52,Tryz.ntmps52
 go_wp2
 go_ret
 exact ⟨by rw [HF.out];rfl,rfl⟩
theorem rat_any (w:World) (v:Value) (l:List Int) (h:RowAt w v l) (i:Int) :
  Calls Tryz.prog 85 #[v,.int .i64 i] w fun e w'=>e = .returned (.int .i64 (atF l i))∧w=w':=by
 obtain ⟨A,C,rfl,hm,hc⟩:=h
 by_cases h0:i<0
 ·have HF:Hid (atF l i=0):=hide (by unfold atF;rw [if_pos h0])
  clear hc
  go_enter Tryz.func85,Tryz.ntmps85
  go_wp2
  go_ret
  exact ⟨by rw [HF.out];rfl,rfl⟩
 obtain ⟨k,rfl⟩:∃ k:Nat,i=(k:Int):=⟨i.toNat,by omega⟩
 by_cases hk:k<l.length
 ·obtain ⟨b,o,rfl,hb,hr⟩:=hc (by omega)
  have hx:=hr k hk
  have HF:Hid (atF l (k:Int)=l[k]):=hide (by unfold atF;rw [if_neg h0,show ((k:Int)).toNat=k by omega,List.getD_eq_getElem?_getD,List.getElem?_eq_getElem hk];rfl)
  have k1:(0:Int)≤(k:Int):=by omega
  have k2:(k:Int)<(l.length:Int):=by omega
  have k3:¬ (k:Int) ≥ (l.length:Int):=by omega
  generalize l[k]=z at hx HF
  clear hc hr hk
  go_enter Tryz.func85,Tryz.ntmps85
  go_wp2
  go_ret
  exact ⟨by rw [HF.out];rfl,rfl⟩
 ·have HF:Hid (atF l (k:Int)=0):=hide (by unfold atF;rw [if_neg h0,show ((k:Int)).toNat=k by omega,List.getD_eq_getElem?_getD,List.getElem?_eq_none (by omega)];rfl)
  have k3:(k:Int) ≥ (l.length:Int):=by omega
  clear hc
  go_enter Tryz.func85,Tryz.ntmps85
  go_wp2
  go_ret
  exact ⟨by rw [HF.out];rfl,rfl⟩
abbrev OpF.val (o:OpF):Value:=.agg #[.int .i64 o.k,.int .i64 o.a,.int .i64 o.b,.int .i64 o.c]
set_option maxHeartbeats 4000000 in
set_option maxRecDepth 100000 in
theorem rlays_any (w:World) (o:OpF) (hk:0≤o.k∧o.k≤14) (n:Int) (vr vc vi vl:Value) (regs cells ins links:List Int) (hr:RowAt w vr regs) (hc:RowAt w vc cells) (hi:RowAt w vi ins) (hl:RowAt w vl links) :
  Calls Tryz.prog 55 #[o.val,.int .i64 n,vr,vc,vi,vl] w fun e w'=>e = .returned (.int .i64 (laysF o n regs cells ins links))∧Below w.heap.size w w':=by
 obtain ⟨k,a,b,c⟩:=o
 simp only at hk
 have HAL:Hid (∀ ob,Below w.heap.size w (w.alloc ob)):=hide (fun ob=>(Below.refl _ _).alloc (Nat.le_refl _) ob)
 have HR:=hide (fun ob z=>rat_any (w.alloc ob) vr regs (hr.below (HAL.out ob)) z)
 have HC:=hide (fun ob z=>rat_any (w.alloc ob) vc cells (hc.below (HAL.out ob)) z)
 have HI:=hide (fun ob z=>rat_any (w.alloc ob) vi ins (hi.below (HAL.out ob)) z)
 have HL:=hide (fun ob z=>rat_any (w.alloc ob) vl links (hl.below (HAL.out ob)) z)
 have HN:=hide (fun W x=>rnumber_any W x)
 have HD:=hide (fun W x y=>rapply_any ⟨#[47]⟩ W x y)
 clear hr hc hi hl
 have hcs:k=0∨k=1∨k=2∨k=3∨k=4∨k=5∨k=6∨k=7∨k=8∨k=9∨k=10∨k=11∨k=12∨k=13∨k=14:=by omega
 clear hk
 rcases hcs with rfl | rfl | rfl | rfl | rfl | hcs
 ·have HF:Hid (laysF ⟨0,a,b,c⟩ n regs cells ins links=a):=hide rfl
  go_enter Tryz.func55,Tryz.ntmps55
  go_wp2
  go_ret
  exact ⟨by rw [HF.out];rfl,HAL.out _⟩
 ·have HF:Hid (laysF ⟨1,a,b,c⟩ n regs cells ins links=atF ins a):=hide rfl
  go_enter Tryz.func55,Tryz.ntmps55
  go_wp2_with fail
  refine (HI.out _ a).mono ?_
  rintro e w1 ⟨rfl,rfl⟩
  go_wp2
  go_ret
  exact ⟨by rw [HF.out];rfl,HAL.out _⟩
 ·have HF:Hid (laysF ⟨2,a,b,c⟩ n regs cells ins links=atF links a):=hide rfl
  go_enter Tryz.func55,Tryz.ntmps55
  go_wp2_with fail
  refine (HL.out _ a).mono ?_
  rintro e w1 ⟨rfl,rfl⟩
  go_wp2
  go_ret
  exact ⟨by rw [HF.out];rfl,HAL.out _⟩
 ·have HF:Hid (laysF ⟨3,a,b,c⟩ n regs cells ins links=atF cells a):=hide rfl
  go_enter Tryz.func55,Tryz.ntmps55
  go_wp2_with fail
  refine (HC.out _ a).mono ?_
  rintro e w1 ⟨rfl,rfl⟩
  go_wp2
  go_ret
  exact ⟨by rw [HF.out];rfl,HAL.out _⟩
 ·have HF:Hid (laysF ⟨4,a,b,c⟩ n regs cells ins links=b2i (decide (n=0))):=hide rfl
  have HQ:Hid ((n == 0)=decide (n=0)):=hide (by by_cases h:n=0 <;> simp [h])
  go_enter Tryz.func55,Tryz.ntmps55
  go_wp2_with fail
  refine (HN.out _ _).mono ?_
  rintro e w1 ⟨rfl,hb1⟩
  go_wp2
  go_ret
  exact ⟨by rw [HF.out,← HQ.out];rfl,(HAL.out _).trans (hb1.mono (by simp))⟩
 ·rcases hcs with rfl | rfl | rfl | rfl | rfl | rfl | rfl | rfl | rfl | rfl
  ·have HF:Hid (laysF ⟨5,a,b,c⟩ n regs cells ins links=w64 (atF regs a+atF regs b)):=hide rfl
   go_enter Tryz.func55,Tryz.ntmps55
   go_wp2_with fail
   refine (HR.out _ a).mono ?_
   rintro e w1 ⟨rfl,rfl⟩
   go_wp2_with fail
   refine (HR.out _ b).mono ?_
   rintro e w1 ⟨rfl,rfl⟩
   generalize atF regs a=ra at *
   generalize atF regs b=rb at *
   go_wp2
   go_ret
   exact ⟨by rw [HF.out];rfl,HAL.out _⟩
  ·have HF:Hid (laysF ⟨6,a,b,c⟩ n regs cells ins links=w64 (atF regs a - atF regs b)):=hide rfl
   go_enter Tryz.func55,Tryz.ntmps55
   go_wp2_with fail
   refine (HR.out _ a).mono ?_
   rintro e w1 ⟨rfl,rfl⟩
   go_wp2_with fail
   refine (HR.out _ b).mono ?_
   rintro e w1 ⟨rfl,rfl⟩
   generalize atF regs a=ra at *
   generalize atF regs b=rb at *
   go_wp2
   go_ret
   exact ⟨by rw [HF.out];rfl,HAL.out _⟩
  ·have HF:Hid (laysF ⟨7,a,b,c⟩ n regs cells ins links=w64 (atF regs a * atF regs b)):=hide rfl
   go_enter Tryz.func55,Tryz.ntmps55
   go_wp2_with fail
   refine (HR.out _ a).mono ?_
   rintro e w1 ⟨rfl,rfl⟩
   go_wp2_with fail
   refine (HR.out _ b).mono ?_
   rintro e w1 ⟨rfl,rfl⟩
   generalize atF regs a=ra at *
   generalize atF regs b=rb at *
   go_wp2
   go_ret
   exact ⟨by rw [HF.out];rfl,HAL.out _⟩
  ·have HF:Hid (laysF ⟨8,a,b,c⟩ n regs cells ins links=apF [47] (atF regs a) (atF regs b)):=hide rfl
   go_enter Tryz.func55,Tryz.ntmps55
   go_wp2_with fail
   refine (HR.out _ a).mono ?_
   rintro e w1 ⟨rfl,rfl⟩
   go_wp2_with fail
   refine (HR.out _ b).mono ?_
   rintro e w1 ⟨rfl,rfl⟩
   generalize atF regs a=ra at *
   generalize atF regs b=rb at *
   go_wp2_with fail
   refine (HD.out _ ra rb).mono ?_
   rintro e w1 ⟨rfl,hb1⟩
   go_wp2
   go_ret
   exact ⟨by rw [HF.out];rfl,(HAL.out _).trans (hb1.mono (by simp))⟩
  ·have HF:Hid (laysF ⟨9,a,b,c⟩ n regs cells ins links=b2i (decide (atF regs a<atF regs b))):=hide rfl
   go_enter Tryz.func55,Tryz.ntmps55
   go_wp2_with fail
   refine (HR.out _ a).mono ?_
   rintro e w1 ⟨rfl,rfl⟩
   go_wp2_with fail
   refine (HR.out _ b).mono ?_
   rintro e w1 ⟨rfl,rfl⟩
   generalize atF regs a=ra at *
   generalize atF regs b=rb at *
   go_wp2_with fail
   refine (HN.out _ _).mono ?_
   rintro e w1 ⟨rfl,hb1⟩
   go_wp2
   go_ret
   exact ⟨by rw [HF.out];rfl,(HAL.out _).trans (hb1.mono (by simp))⟩
  ·have HF:Hid (laysF ⟨10,a,b,c⟩ n regs cells ins links=b2i (decide (atF regs a=atF regs b))):=hide rfl
   go_enter Tryz.func55,Tryz.ntmps55
   go_wp2_with fail
   refine (HR.out _ a).mono ?_
   rintro e w1 ⟨rfl,rfl⟩
   go_wp2_with fail
   refine (HR.out _ b).mono ?_
   rintro e w1 ⟨rfl,rfl⟩
   generalize atF regs a=ra at *
   generalize atF regs b=rb at *
   go_wp2_with fail
   refine (HN.out _ _).mono ?_
   rintro e w1 ⟨rfl,hb1⟩
   go_wp2
   go_ret
   exact ⟨by rw [HF.out,show decide (ra=rb)=(ra == rb) by by_cases h:ra=rb <;> simp [h]];rfl,(HAL.out _).trans (hb1.mono (by simp))⟩
  ·have HF:Hid (laysF ⟨11,a,b,c⟩ n regs cells ins links=b2i (decide (atF regs a≠0) && decide (atF regs b≠0))):=hide rfl
   go_enter Tryz.func55,Tryz.ntmps55
   go_wp2_with fail
   refine (HR.out _ a).mono ?_
   rintro e w1 ⟨rfl,rfl⟩
   go_wp2_with fail
   refine (HR.out _ b).mono ?_
   rintro e w1 ⟨rfl,rfl⟩
   generalize atF regs a=ra at *
   generalize atF regs b=rb at *
   by_cases h1:ra=0
   ·have q1:(ra != 0)=false:=by rw [h1];rfl
    have HG:Hid ((decide (ra≠0) && decide (rb≠0))=false):=hide (by rw [decide_eq_false (by simpa using h1)];rfl)
    clear h1
    go_wp2_with fail
    refine (HN.out _ _).mono ?_
    rintro e w1 ⟨rfl,hb1⟩
    go_wp2
    go_ret
    exact ⟨by rw [HF.out,HG.out];rfl,(HAL.out _).trans (hb1.mono (by simp))⟩
   ·have q1:(ra != 0)=true:=by rw [bne_iff_ne];exact h1
    have HG:Hid ((decide (ra≠0) && decide (rb≠0))=decide (rb≠0)):=hide (by rw [decide_eq_true h1];rfl)
    clear h1
    by_cases h2:rb=0
    ·have q2:(rb != 0)=false:=by rw [h2];rfl
     have HG2:Hid ((decide (ra≠0) && decide (rb≠0))=false):=hide (by rw [HG.out,decide_eq_false (by simpa using h2)])
     clear h2 HG
     go_wp2_with fail
     refine (HN.out _ _).mono ?_
     rintro e w1 ⟨rfl,hb1⟩
     go_wp2
     go_ret
     exact ⟨by rw [HF.out,HG2.out];rfl,(HAL.out _).trans (hb1.mono (by simp))⟩
    ·have q2:(rb != 0)=true:=by rw [bne_iff_ne];exact h2
     have HG2:Hid ((decide (ra≠0) && decide (rb≠0))=true):=hide (by rw [HG.out,decide_eq_true h2])
     clear h2 HG
     go_wp2_with fail
     refine (HN.out _ _).mono ?_
     rintro e w1 ⟨rfl,hb1⟩
     go_wp2
     go_ret
     exact ⟨by rw [HF.out,HG2.out];rfl,(HAL.out _).trans (hb1.mono (by simp))⟩
  ·have HF:Hid (laysF ⟨12,a,b,c⟩ n regs cells ins links=b2i (decide (atF regs a≠0) || decide (atF regs b≠0))):=hide rfl
   go_enter Tryz.func55,Tryz.ntmps55
   go_wp2_with fail
   refine (HR.out _ a).mono ?_
   rintro e w1 ⟨rfl,rfl⟩
   go_wp2_with fail
   refine (HR.out _ b).mono ?_
   rintro e w1 ⟨rfl,rfl⟩
   generalize atF regs a=ra at *
   generalize atF regs b=rb at *
   by_cases h1:ra=0
   ·have q1:(ra != 0)=false:=by rw [h1];rfl
    have HG:Hid ((decide (ra≠0) || decide (rb≠0))=decide (rb≠0)):=hide (by rw [decide_eq_false (by simpa using h1)];rfl)
    clear h1
    by_cases h2:rb=0
    ·have q2:(rb != 0)=false:=by rw [h2];rfl
     have HG2:Hid ((decide (ra≠0) || decide (rb≠0))=false):=hide (by rw [HG.out,decide_eq_false (by simpa using h2)])
     clear h2 HG
     go_wp2_with fail
     refine (HN.out _ _).mono ?_
     rintro e w1 ⟨rfl,hb1⟩
     go_wp2
     go_ret
     exact ⟨by rw [HF.out,HG2.out];rfl,(HAL.out _).trans (hb1.mono (by simp))⟩
    ·have q2:(rb != 0)=true:=by rw [bne_iff_ne];exact h2
     have HG2:Hid ((decide (ra≠0) || decide (rb≠0))=true):=hide (by rw [HG.out,decide_eq_true h2])
     clear h2 HG
     go_wp2_with fail
     refine (HN.out _ _).mono ?_
     rintro e w1 ⟨rfl,hb1⟩
     go_wp2
     go_ret
     exact ⟨by rw [HF.out,HG2.out];rfl,(HAL.out _).trans (hb1.mono (by simp))⟩
   ·have q1:(ra != 0)=true:=by rw [bne_iff_ne];exact h1
    have HG:Hid ((decide (ra≠0) || decide (rb≠0))=true):=hide (by rw [decide_eq_true h1];rfl)
    clear h1
    go_wp2_with fail
    refine (HN.out _ _).mono ?_
    rintro e w1 ⟨rfl,hb1⟩
    go_wp2
    go_ret
    exact ⟨by rw [HF.out,HG.out];rfl,(HAL.out _).trans (hb1.mono (by simp))⟩
  ·have HF:Hid (laysF ⟨13,a,b,c⟩ n regs cells ins links=b2i (decide (atF regs a=0))):=hide rfl
   go_enter Tryz.func55,Tryz.ntmps55
   go_wp2_with fail
   refine (HR.out _ a).mono ?_
   rintro e w1 ⟨rfl,rfl⟩
   go_wp2_with fail
   refine (HR.out _ b).mono ?_
   rintro e w1 ⟨rfl,rfl⟩
   generalize atF regs a=ra at *
   generalize atF regs b=rb at *
   go_wp2_with fail
   refine (HN.out _ _).mono ?_
   rintro e w1 ⟨rfl,hb1⟩
   go_wp2
   go_ret
   exact ⟨by rw [HF.out,show decide (ra=0)=(ra == 0) by by_cases h:ra=0 <;> simp [h]];rfl,(HAL.out _).trans (hb1.mono (by simp))⟩
  ·have HF:Hid (laysF ⟨14,a,b,c⟩ n regs cells ins links=if atF regs a=0 then atF regs c else atF regs b):=hide rfl
   go_enter Tryz.func55,Tryz.ntmps55
   go_wp2_with fail
   refine (HR.out _ a).mono ?_
   rintro e w1 ⟨rfl,rfl⟩
   go_wp2_with fail
   refine (HR.out _ b).mono ?_
   rintro e w1 ⟨rfl,rfl⟩
   generalize atF regs a=ra at *
   generalize atF regs b=rb at *
   by_cases h1:ra=0
   ·have q1:(ra == 0)=true:=by rw [h1];rfl
    have HG:Hid (laysF ⟨14,a,b,c⟩ n regs cells ins links=atF regs c):=hide (by rw [HF.out,if_pos h1])
    clear h1 HF
    go_wp2_with fail
    refine (HR.out _ c).mono ?_
    rintro e w1 ⟨rfl,rfl⟩
    go_wp2
    go_ret
    exact ⟨by rw [HG.out];rfl,HAL.out _⟩
   ·have q1:(ra == 0)=false:=by rw [beq_eq_false_iff_ne];exact h1
    have HG:Hid (laysF ⟨14,a,b,c⟩ n regs cells ins links=rb):=hide (by rw [HF.out,if_neg h1])
    clear h1 HF
    go_wp2
    go_ret
    exact ⟨by rw [HG.out];rfl,HAL.out _⟩
set_option maxHeartbeats 1000000 in
theorem lsame_any (w:World) (va vb:Value) (xs ys:List Int) (ha:RowAt w va xs) (hb:RowAt w vb ys) :
  Calls Tryz.prog 9 #[va,vb] w fun e w'=>e = .returned (.bool (xs == ys))∧Below w.heap.size w w':=by
 obtain ⟨A,C,rfl,hm,hc⟩:=ha
 obtain ⟨A',C',rfl,hm',hc'⟩:=hb
 by_cases hl:xs.length=ys.length
 ·have q1:((xs.length:Int) != (ys.length:Int))=false:=by rw [hl];simp
  have HA:=hide hc
  have HB:=hide hc'
  have HL:=hide hl
  clear hc hc' hl
  go_enter Tryz.func9,Tryz.ntmps9
  go_wp2
  go_loopw [5] (fun vi wr=>∃ m:Nat,m≤xs.length∧vi = .int .i64 m∧Below w.heap.size w wr∧∀ j,j<m→(hx:j<xs.length)→(hy:j<ys.length)→xs[j]=ys[j]) (fun vi _=>xs.length - (intOf vi).toNat)
  case atStart=>exact ⟨0,Nat.zero_le _,rfl,Below.refl _ _,fun j hj=>by omega⟩
  case round=>
   obtain ⟨m,hm,rfl,hbx,hrec⟩:=hrel
   have HRC:=hide hrec
   clear hrec
   by_cases hml:m<xs.length
   ·obtain ⟨b,o,rfl,hb,hr⟩:=HA.out (by omega)
    obtain ⟨b',o',rfl,hb',hr'⟩:=HB.out (by have:=HL.out;omega)
    have hmy:m<ys.length:=by have:=HL.out;omega
    have x1:=(hbx.cell (p:=⟨b,o+m,none⟩) hb).trans (hr m hml)
    have x2:=(hbx.cell (p:=⟨b',o'+m,none⟩) hb').trans (hr' m hmy)
    have j3:(0:Int)≤(m:Int):=by omega
    have j4:(m:Int)<(xs.length:Int):=by omega
    have j5:(m:Int)<(ys.length:Int):=by omega
    by_cases he:xs[m]=ys[m]
    ·have HN:Hid (∀ j,j<m+1→(hx:j<xs.length)→(hy:j<ys.length)→xs[j]=ys[j]):=hide (fun j hj hx hy=>by
      by_cases e:j=m
      ·subst e;exact he
      ·exact HRC.out j (by omega) hx hy)
     have q2:(xs[m] != ys[m])=false:=by rw [he];simp
     generalize xs[m]=u at x1 q2
     generalize ys[m]=v at x2 q2
     clear hr hr' he
     go_wp2_with fail
     go_quiet (fail)
     go_wp2
     go_roundw
     case rel=>exact ⟨m+1,by omega,by go_num,by first | exact hbx | exact below_drewN hbx _,HN.out⟩
     case measure=>simp [intOf];omega
    ·have HN:=hide (row_ne hml hmy he)
     have q2:(xs[m] != ys[m])=true:=by rw [bne_iff_ne];exact he
     generalize xs[m]=u at x1 q2
     generalize ys[m]=v at x2 q2
     clear hr hr' he
     go_wp2_with fail
     go_quiet (fail)
     go_wp2
     go_ret
     exact ⟨by rw [HN.out];rfl,by first | exact hbx | exact below_drewN hbx _⟩
   ·have em:m=xs.length:=by omega
    subst em
    have HN:=hide (row_eq HL.out (fun j hx hy=>HRC.out j hx hx hy))
    have z1:¬ (xs.length:Int)<(xs.length:Int):=by omega
    clear HRC
    go_wp2
    go_ret
    exact ⟨by rw [HN.out];rfl,hbx⟩
 ·have q1:((xs.length:Int) != (ys.length:Int))=true:=by rw [bne_iff_ne];omega
  have HN:Hid ((xs == ys)=false):=hide (by rw [beq_eq_false_iff_ne];rintro rfl;exact hl rfl)
  clear hc hc' hl
  go_enter Tryz.func9,Tryz.ntmps9
  go_wp2
  go_ret
  exact ⟨by rw [HN.out];rfl,Below.refl _ _⟩
set_option maxHeartbeats 1000000 in
theorem lfull_any (w:World) (va:Value) (xs:List Int) (mk:Int) (ha:RowAt w va xs) :
  Calls Tryz.prog 25 #[va,.int .i64 mk] w fun e w'=>e = .returned (.bool (xs.all (· == mk)))∧Below w.heap.size w w':=by
 obtain ⟨A,C,rfl,hm,hc⟩:=ha
 have HA:=hide hc
 clear hc
 go_enter Tryz.func25,Tryz.ntmps25
 go_wp2
 go_loopw [5] (fun vi wr=>∃ m:Nat,m≤xs.length∧vi = .int .i64 m∧Below w.heap.size w wr∧∀ j,j<m→(hx:j<xs.length)→xs[j]=mk) (fun vi _=>xs.length - (intOf vi).toNat)
 case atStart=>exact ⟨0,Nat.zero_le _,rfl,Below.refl _ _,fun j hj=>by omega⟩
 case round=>
  obtain ⟨m,hm,rfl,hbx,hrec⟩:=hrel
  have HRC:=hide hrec
  clear hrec
  by_cases hml:m<xs.length
  ·obtain ⟨b,o,rfl,hb,hr⟩:=HA.out (by omega)
   have x1:=(hbx.cell (p:=⟨b,o+m,none⟩) hb).trans (hr m hml)
   have j3:(0:Int)≤(m:Int):=by omega
   have j4:(m:Int)<(xs.length:Int):=by omega
   by_cases he:xs[m]=mk
   ·have HN:Hid (∀ j,j<m+1→(hx:j<xs.length)→xs[j]=mk):=hide (fun j hj hx=>by
     by_cases e:j=m
     ·subst e;exact he
     ·exact HRC.out j (by omega) hx)
    have q2:(xs[m] != mk)=false:=by rw [he];simp
    generalize xs[m]=u at x1 q2
    clear hr he
    go_wp2
    go_roundw
    case rel=>exact ⟨m+1,by omega,by go_num,by first | exact hbx | exact below_drewN hbx _,HN.out⟩
    case measure=>simp [intOf];omega
   ·have HN:Hid (xs.all (· == mk)=false):=hide (by rw [List.all_eq_false];exact ⟨xs[m],List.getElem_mem hml,by simpa using he⟩)
    have q2:(xs[m] != mk)=true:=by rw [bne_iff_ne];exact he
    generalize xs[m]=u at x1 q2
    clear hr he
    go_wp2
    go_ret
    exact ⟨by rw [HN.out];rfl,by first | exact hbx | exact below_drewN hbx _⟩
  ·have em:m=xs.length:=by omega
   subst em
   have HN:Hid (xs.all (· == mk)=true):=hide (by
    rw [List.all_eq_true]
    intro x hx
    obtain ⟨j,hj,rfl⟩:=List.getElem_of_mem hx
    rw [HRC.out j hj hj];simp)
   have z1:¬ (xs.length:Int)<(xs.length:Int):=by omega
   clear HRC
   go_wp2
   go_ret
   exact ⟨by rw [HN.out];rfl,hbx⟩
end Go.Proofs.YtmndgoapkmhglaaGreat
namespace Go.Proofs.YtmndgoapkmhglaaGreat
open Go.RowKit
def AllM (w:World) (K:Nat→Prop) (v:Value) (n:Nat) (mk:Int):Prop:=
 ∃ (A:Option Addr) (C:Nat),v = .slice A n C∧n≤35184372088832∧(0<n→∃ b o,A=some ⟨b,o,none⟩∧K b∧b<w.heap.size∧∀ c,c<n→w.cell? ⟨b,o+c,none⟩=some (.int .i64 mk))
theorem AllM.row {w:World}{K:Nat→Prop}{v:Value}{n:Nat}{mk:Int} (h:AllM w K v n mk):RowAt w v (List.replicate n mk):=by
 obtain ⟨A,C,rfl,hm,hc⟩:=h
 refine ⟨A,C,by rw [List.length_replicate],by rw [List.length_replicate];exact hm,fun hp=>?_⟩
 rw [List.length_replicate] at hp
 obtain ⟨b,o,h1,_,h3,h4⟩:=hc hp
 exact ⟨b,o,h1,h3,fun c hc=>by rw [List.getElem_replicate];exact h4 c (by simpa using hc)⟩
theorem AllM.keep {w w':World}{K K':Nat→Prop}{v:Value}{n:Nat}{mk:Int} (h:AllM w K v n mk) (hs:w.heap.size≤w'.heap.size) (hk:∀ b,b<w.heap.size→K b→K' b)
  (hc:∀ b,b<w.heap.size→K b→∀ c,w.cell? ⟨b,c,none⟩=some (.int .i64 mk)→w'.cell? ⟨b,c,none⟩=some (.int .i64 mk)):AllM w' K' v n mk:=by
 obtain ⟨A,C,rfl,hm,h⟩:=h
 refine ⟨A,C,rfl,hm,fun hp=>?_⟩
 obtain ⟨b,o,h1,h2,h3,h4⟩:=h hp
 exact ⟨b,o,h1,hk b h3 h2,Nat.lt_of_lt_of_le h3 hs,fun c hcc=>hc b h3 h2 _ (h4 c hcc)⟩
theorem AllM.below {w w':World}{K:Nat→Prop}{v:Value}{n:Nat}{mk:Int} (h:AllM w K v n mk) (hb:Below w.heap.size w w'):AllM w' K v n mk:=
 h.keep hb.size (fun _ _ hk=>hk) (fun b hb' _ c hc=>(hb.cell (p:=⟨b,c,none⟩) hb').trans hc)
theorem grown_cell {w w':World}{row:Option Nat} (h:w.grownBy w' row) {b c:Nat} (hb:b<w.heap.size) (hr:row≠some b):w'.cell? ⟨b,c,none⟩=w.cell? ⟨b,c,none⟩:=
 World.cell?_of_block (w:=w) (a:=⟨b,c,none⟩) (h.block b hb (Ne.symm hr))
theorem own_allM {w:World}{base:Nat}{e:TypeId}{v:Value}{n:Nat}{mk:Int} (hn:n≤35184372088832) (h:w.ownsRow base e 1 v n (List.replicate n (.int .i64 mk))) (K:Nat→Prop) (hK:∀ b,v.ownBlock=some b→K b):AllM w K v n mk:=by
 rcases h.2 with ⟨rfl,rfl⟩ | ⟨g,cap,cur,rfl,hb,hg,h1,h2,h3,h4⟩
 ·exact ⟨none,0,rfl,hn,fun hp=>by omega⟩
 ·refine ⟨some ⟨g,0,none⟩,cap,rfl,hn,fun hp=>⟨g,0,rfl,hK g rfl,(Array.getElem?_eq_some_iff.1 hg).1,fun c hc=>?_⟩⟩
  rw [h.cellAt (0+c) (by omega),List.getElem?_replicate,if_pos (by omega)]
theorem setCells_block {b:Nat}:∀ (vs:List Value) (o:Nat) (w:World) (cs:Array Value) (t:TypeId),w.heap[b]? = some (.cells cs t (0,0))→
  ∃ cs',(w.setCells b o vs).heap[b]? = some (.cells cs' t (0,0))∧cs'.size=cs.size∧cs'.toList.take o=cs.toList.take o∧(w.setCells b o vs).heap.size=w.heap.size∧(∀ k,k≠b→(w.setCells b o vs).heap[k]? = w.heap[k]?)∧(w.setCells b o vs).os=w.os∧(w.setCells b o vs).tape=w.tape∧(w.setCells b o vs).output=w.output:=by
 intro vs
 induction vs with
 | nil=>intro o w cs t h;exact ⟨cs,h,rfl,rfl,rfl,fun _ _=>rfl,rfl,rfl,rfl⟩
 | cons v r ih=>
  intro o w cs t h
  obtain ⟨cs',h1,h2,h3,h4,h5,h6,h7,h8⟩:=ih (o+1) (w.setCell ⟨b,o,none⟩ v) (cs.setIfInBounds o v) t (heap_setCell_same w b o cs t v h)
  refine ⟨cs',h1,by simpa using h2,?_,by rw [World.setCells,h4];simp,fun k hk=>(h5 k hk).trans (heap_setCell_other w ⟨b,o,none⟩ k v hk),h6,h7,h8⟩
  have e:cs'.toList.take o=(cs'.toList.take (o+1)).take o:=by rw [List.take_take,Nat.min_eq_left (by omega)]
  rw [e,h3,List.take_take,Nat.min_eq_left (by omega),Array.toList_setIfInBounds,List.take_set_of_le (by omega)]
theorem append_marks {P:Program} (w:World) {ops:Array Oper}{rest:List Oper}{o:Oper}{a:Act}{Q:Exit→Act→World→Prop}
  (hg:o.guard=none) (s x:Operand) (t:TypeId) (hop:o.op=Op.call { callee:=Callee.builtin Builtin.append,args:=#[s,x],argTypes:=#[t,t] })
  (e:TypeId) (i:TypeInfo) (z:Value) (h1:P.underlying t=some (.slice e)) (h2:P.info? e=some i) (h3:i.zero=some z) (h4:i.size=1) (h5:i.bytes=8) (h6:z.cells.size=1)
  (base n m:Nat) (mk:Int) (v:Value) (hs:a.eval s=v) (hown:w.ownsRow base e 1 v n (List.replicate n (.int .i64 mk)))
  (ad:Addr) (c:Nat) (hx:a.eval x = .slice (some ad) m c) (hc:∀ j,j<m→w.cell? (ad.add j)=some (.int .i64 mk)) (hm:0<m) (hnm:n+m≤1000000)
  (h:∀ v' w',w'.ownsRow base e 1 v n (List.replicate n (.int .i64 mk))→w.grownBy w' v.ownBlock→(∀ b c,w.cell? ⟨b,c,none⟩=some (.int .i64 mk)→w'.cell? ⟨b,c,none⟩=some (.int .i64 mk))→
    AllM w' (fun b=>v.ownBlock=some b∨w.heap.size≤b) v' (n+m) mk→(∃ A C,v' = .slice A (n+m) C)→wpList P ops Q rest (a.put o.dst v') w') :
  wpList P ops Q (o :: rest) a w:=by
 have news:∀ j u,(List.replicate m (Value.int .i64 mk))[j]? = some u→w.cell? (ad.add j)=some u:=fun j u hj=>by
  rw [List.getElem?_replicate] at hj
  split at hj
  ·cases hj;exact hc j (by assumption)
  ·cases hj
 have one:∀ u∈List.replicate m (Value.int .i64 mk),u.oneCell'=true:=fun u hu=>by rw [(List.mem_replicate.1 hu).2];rfl
 have rep:List.replicate n (Value.int .i64 mk) ++ List.replicate m (.int .i64 mk)=List.replicate (n+m) (.int .i64 mk):=List.replicate_append_replicate
 have big:n+m≤maxLen:=by unfold maxLen;omega
 have grow:∀ v' w',w'.ownsRow w.heap.size e 1 v' (n+m) (List.replicate n (.int .i64 mk) ++ List.replicate m (.int .i64 mk))→w.grownBy w' none→wpList P ops Q rest (a.put o.dst v') w':=fun v' w' hown' hgr=>by
  rw [rep] at hown'
  obtain ⟨A,C,hv',_⟩:=own_shape hown'
  refine h v' w' (hown.kept hgr ?_) ⟨hgr.os,hgr.tape,hgr.output,hgr.size,fun k hk _=>hgr.block k hk (by simp)⟩ (fun b c hcell=>?_) (own_allM (by omega) hown' _ (fun b hb=>.inr (hown'.lt b hb).1)) ⟨A,C,hv'⟩
  ·cases v.ownBlock with
   | none=>exact .inl rfl
   | some k=>exact .inr (by simp)
  ·rw [grown_cell hgr (World.block_lt_of_cell? _ _ hcell) (by simp)];exact hcell
 rcases hown.2 with ⟨rfl,rfl⟩ | ⟨g,cap,cur,rfl,hb,hgc,hnc,hcm,hcs,htake⟩
 ·exact wpList_append_grows w hg s x t hop e i z 1 8 h1 h2 h3 h4 h5 h6 (by omega) none 0 0 [] hs (fun _=>⟨rfl,rfl⟩) rfl (fun b hb=>by cases hb) ad m c (List.replicate m (.int .i64 mk)) hx (by simp) news one (by omega) big (by omega) (fun v' w' ho hgr=>grow v' w' (by simpa using ho) hgr)
 ·refine wpList_append_arg w hg s x t hop e i z 1 8 h1 h2 h3 h4 h5 h6 (by omega) g 0 n cap (List.replicate n (.int .i64 mk)) hs (by simp) (fun j u hj=>?_) ad m c (List.replicate m (.int .i64 mk)) hx (by simp) news one ?_ big (by omega) ?_ (fun _ v' w' ho hgr=>grow v' w' ho hgr)
  ·rw [Nat.zero_add,hown.cellAt j (by have:=(List.getElem?_eq_some_iff.1 hj).1;simpa using this)];exact hj
  ·intro hr j hj
   rw [List.length_replicate] at hj
   refine ⟨?_,hown.frozenAt _⟩
   rw [cell_of_row w g _ _ _ _ hgc,Array.getElem?_eq_getElem (by omega)]
   rfl
  ·intro hr
   obtain ⟨cs',k1,k2,k3,k4,k5,k6,k7,k8⟩:=setCells_block (List.replicate m (Value.int .i64 mk)) (0+n * 1) w cur e hgc
   have hin:∀ j,j<m→(w.setCells g (0+n * 1) (List.replicate m (Value.int .i64 mk))).cell? ⟨g,0+n * 1+j,none⟩=some (.int .i64 mk):=fun j hj=>by
    rw [World.cell?_setCells_in g _ _ w (fun j hj=>by rw [List.length_replicate] at hj;rw [cell_of_row w g _ _ _ _ hgc,Array.getElem?_eq_getElem (by omega)];rfl) j (by simpa using hj),List.getElem_replicate]
   have keep:∀ b c,w.cell? ⟨b,c,none⟩=some (.int .i64 mk)→(w.setCells g (0+n * 1) (List.replicate m (Value.int .i64 mk))).cell? ⟨b,c,none⟩=some (.int .i64 mk):=fun b c hcell=>by
    by_cases hh:b=g∧0+n * 1≤c∧c<0+n * 1+m
    ·obtain ⟨rfl,hc1,hc2⟩:=hh
     have:=hin (c - (0+n * 1)) (by omega)
     rwa [show 0+n * 1+(c - (0+n * 1))=c by omega] at this
    ·rw [World.cell?_setCells_out g _ _ w ⟨b,c,none⟩ (fun hb' _=>by
      have hb'':b=g:=hb'
      show c<0+n * 1∨0+n * 1+(List.replicate m (Value.int .i64 mk)).length≤c
      rw [List.length_replicate];omega)]
     exact hcell
   refine h _ _ ⟨by simp,.inr ⟨g,cap,cs',rfl,hb,k1,hnc,hcm,by rw [k2];exact hcs,?_⟩⟩ ⟨k6,k7,k8,by rw [k4];exact Nat.le_refl _,fun k _ hk=>k5 k (fun e=>hk (by rw [e];rfl))⟩ keep ?_ ⟨_,_,rfl⟩
   ·rw [Nat.zero_add] at k3
    rw [k3];exact htake
   ·refine ⟨some ⟨g,0,none⟩,cap,rfl,by omega,fun hp=>⟨g,0,rfl,.inl rfl,by rw [k4];exact (Array.getElem?_eq_some_iff.1 hgc).1,fun c hc'=>?_⟩⟩
    by_cases hcn:c<n
    ·refine keep g (0+c) ?_
     rw [hown.cellAt (0+c) (by omega),List.getElem?_replicate,if_pos (by omega)]
    ·have:=hin (c - n) (by omega)
     rwa [show 0+n * 1+(c - n)=0+c by omega] at this
theorem marks_block (w:World) (cs:Array Value) (t:TypeId) (m:Nat) (mk:Int) (h:cs.toList=List.replicate m (.int .i64 mk)):∀ j,j<m→(w.alloc (.cells cs t)).cell? ((⟨w.heap.size,0,none⟩:Addr).add j)=some (.int .i64 mk):=by
 intro j hj
 refine World.news_of_block (cs:=cs) (t:=t) (fr:=(0,0)) (heap_alloc_new w _) j _ ?_
 rw [h,List.getElem?_replicate,if_pos hj]
theorem grown_trans {w w1 w2:World}{row:Option Nat} (h1:w.grownBy w1 row) (h2:w1.grownBy w2 row):w.grownBy w2 row:=
 ⟨h2.os.trans h1.os,h2.tape.trans h1.tape,h2.output.trans h1.output,Nat.le_trans h1.size h2.size,fun k hk hne=>(h2.block k (Nat.lt_of_lt_of_le hk h1.size) hne).trans (h1.block k hk hne)⟩
theorem grown_alloc (w:World) (o:Obj) (row:Option Nat):w.grownBy (w.alloc o) row:=⟨rfl,rfl,rfl,by simp,fun k hk _=>Below.heap_alloc _ _ _ hk⟩
theorem grown_set {w w1:World}{row:Option Nat} (h:w.grownBy w1 row) {p:Addr} (hp:w.heap.size≤p.block) (u:Value):w.grownBy (w1.setCell p u) row:=
 ⟨h.os,h.tape,h.output,by simpa using h.size,fun k hk hne=>(Below.heap_setCell _ _ _ _ (by omega)).trans (h.block k hk hne)⟩
end Go.Proofs.YtmndgoapkmhglaaGreat
namespace Go.Proofs.YtmndgoapkmhglaaGreat
open Go.RowKit
attribute [local go_sem ↓] Go.wp_at_zero Go.wp_at_succ
theorem val_congr {ds:List Dc}{ins:List (List Int)}{n:Nd}{k:Nat}{X X' Y Y':Nat→Int} (h1:∀ c∈needs n,X c=X' c) (h2:n.kind=2→kindAt ds n.decl≠0→X (rootAt ds n.decl)=X' (rootAt ds n.decl)) (h3:n.kind=5→k≠0→Y n.b=Y' n.b) :
  valF ds ins n k X Y=valF ds ins n k X' Y':=by
 unfold valF
 by_cases k2:n.kind=2
 ·rw [if_pos k2,if_pos k2]
  unfold nameF
  by_cases hk:kindAt ds n.decl=0
  ·rw [if_pos hk,if_pos hk]
  ·rw [if_neg hk,if_neg hk,h2 k2 hk]
 rw [if_neg k2,if_neg k2]
 by_cases k3:n.kind=3
 ·rw [if_pos k3,if_pos k3,h1 n.a (by simp [needs,k3])]
 rw [if_neg k3,if_neg k3]
 by_cases k4:n.kind=4
 ·rw [if_pos k4,if_pos k4,h1 n.a (by simp [needs,k4]),h1 n.b (by simp [needs,k4]),h1 n.c (by simp [needs,k4])]
 rw [if_neg k4,if_neg k4]
 by_cases k5:n.kind=5
 ·rw [if_pos k5,if_pos k5]
  by_cases hk:k=0
  ·rw [if_pos hk,if_pos hk,h1 n.a (by simp [needs,k5])]
  ·rw [if_neg hk,if_neg hk,h3 k5 hk]
 rw [if_neg k5,if_neg k5]
 by_cases k6:n.kind=6
 ·rw [if_pos k6,if_pos k6,h1 n.a (by simp [needs,k6]),h1 n.b (by simp [needs,k6])]
 rw [if_neg k6,if_neg k6]
structure DoneT (ds:List Dc) (ns:List Nd) (V:Nat→Int) (T:List Nat) (j:Nat) (X:Nat→Int):Prop where
 all:∀ t∈T.take j,∀ d,ds[t]? = some d→∀ i,d.root≤i→i<d.fin→dlAt ns i=false→X i=V i
theorem DoneT.set {ds:List Dc}{ns:List Nd}{V:Nat→Int}{T:List Nat}{j:Nat}{X:Nat→Int} (h:DoneT ds ns V T j X) (i:Nat):DoneT ds ns V T j (fun c=>if c=i then V i else X c):=by
 refine ⟨fun t ht d hd c h1 h2 h3=>?_⟩
 by_cases e:c=i
 ·simp [e]
 ·simp only [if_neg e];exact h.all t ht d hd c h1 h2 h3
theorem turn_val {ds:List Dc}{ns:List Nd}{ins:List (List Int)}{NV:Nat→Nat→Int}{T:List Nat} (hM:Meant ds ns ins NV) (hO:OrdOk ds (markAll ds ns 0 ds noM) T) {k j t:Nat}{X Y:Nat→Int} (hD:DoneT ds ns (NV k) T j X)
  (hY:k≠0→∀ c,c<ns.length→Y c=NV (k - 1) c) (hpb:∀ n∈ns,n.b<ns.length) (ht:T[j]? = some t) {d:Dc} (hd:ds[t]? = some d) {i:Nat} (hi:i<ns.length) (h1:d.root≤i) (h2:i<d.fin)
  (hl:(ns[i]'hi).delayed=false) (hin:∀ c,i<c→c<d.fin→dlAt ns c=false→X c=NV k c):valF ds ins (ns[i]'hi) k X Y=NV k i:=by
 have hn:ns[i]? = some (ns[i]'hi):=List.getElem?_eq_getElem hi
 obtain ⟨d',hd',hk⟩:=hO.eqn t (List.mem_of_getElem? ht)
 rw [hd] at hd'
 cases hd'
 rw [hM.val i _ hn k]
 refine val_congr (fun c hc=>?_) (fun k2 hq=>?_) (fun k5 h0=>hY h0 _ (hpb _ (List.getElem_mem hi)))
 ·obtain ⟨g1,g2,g3⟩:=hM.kids t d hd hk i _ hn h1 h2 c hc
  exact hin c g1 g2 (by rw [g3];exact hl)
 ·have hm:=hM.hang t d hd hk i _ hn h1 h2 k2 hl hq
  obtain ⟨dd1,dd2⟩:=hM.decl _ (List.getElem_mem hi) k2
  have hlt:(ns[i]'hi).decl.toNat<ds.length:=by omega
  have hdb:ds[(ns[i]'hi).decl.toNat]? = some (ds[(ns[i]'hi).decl.toNat]'hlt):=List.getElem?_eq_getElem hlt
  have e1:kindAt ds (ns[i]'hi).decl=(ds[(ns[i]'hi).decl.toNat]'hlt).kind:=by unfold kindAt;rw [List.getD_eq_getElem?_getD,hdb];rfl
  have e2:rootAt ds (ns[i]'hi).decl=(ds[(ns[i]'hi).decl.toNat]'hlt).root:=by unfold rootAt;rw [List.getD_eq_getElem?_getD,hdb];rfl
  rw [e1] at hq
  rw [e2]
  have hmem:=hO.topo j t ht _ hm
  obtain ⟨_,r2⟩:=hM.root _ _ hdb hq
  obtain ⟨s1,s2⟩:=hM.segs _ _ hdb hq
  exact hD.all _ hmem _ hdb _ (Nat.le_refl _) s1 r2
theorem late_val {ds:List Dc}{ns:List Nd}{ins:List (List Int)}{NV:Nat→Nat→Int} (hM:Meant ds ns ins NV) {k:Nat}{X Y:Nat→Int}
  (hY:k≠0→∀ c,c<ns.length→Y c=NV (k - 1) c) (hpb:∀ n∈ns,n.b<ns.length) {i:Nat} (hi:i<ns.length) (hp:∀ c,c<ns.length→dlAt ns c=false→X c=NV k c) (hq:∀ c,i<c→c<ns.length→X c=NV k c):valF ds ins (ns[i]'hi) k X Y=NV k i:=by
 have hn:ns[i]? = some (ns[i]'hi):=List.getElem?_eq_getElem hi
 obtain ⟨a,d,hd,hk,h1,h2⟩:=hM.cover i hi
 rw [hM.val i _ hn k]
 refine val_congr (fun c hc=>?_) (fun k2 hz=>?_) (fun k5 h0=>hY h0 _ (hpb _ (List.getElem_mem hi)))
 ·obtain ⟨g1,g2,g3⟩:=hM.kids a d hd hk i _ hn h1 h2 c hc
  have:=(hM.segs a d hd hk).2
  exact hq c g1 (by omega)
 ·obtain ⟨dd1,dd2⟩:=hM.decl _ (List.getElem_mem hi) k2
  have hlt:(ns[i]'hi).decl.toNat<ds.length:=by omega
  have hdb:ds[(ns[i]'hi).decl.toNat]? = some (ds[(ns[i]'hi).decl.toNat]'hlt):=List.getElem?_eq_getElem hlt
  have e1:kindAt ds (ns[i]'hi).decl=(ds[(ns[i]'hi).decl.toNat]'hlt).kind:=by unfold kindAt;rw [List.getD_eq_getElem?_getD,hdb];rfl
  have e2:rootAt ds (ns[i]'hi).decl=(ds[(ns[i]'hi).decl.toNat]'hlt).root:=by unfold rootAt;rw [List.getD_eq_getElem?_getD,hdb];rfl
  rw [e1] at hz
  rw [e2]
  obtain ⟨r1,r2⟩:=hM.root _ _ hdb hz
  exact hp _ r1 r2
end Go.Proofs.YtmndgoapkmhglaaGreat
