import Derived.Test.YtmndgoapkmhglabGreatM24RefR
import Derived.Test.YtmndgoapkmhglabGreatM33OpenA
namespace Go.Proofs.YtmndgoapkmhglabGreat
open Go.RowKit
attribute [local go_sem ↓] Go.wp_at_zero Go.wp_at_succ
abbrev vOk (r:Int × Bool):Value:=.tuple #[.int .i64 r.1,.bool r.2]
set_option maxHeartbeats 2000000 in
set_option maxRecDepth 100000 in
theorem rnamed_any (w0 w:World) (tb q g cap:Nat) (ts:List Tk) (L:List Dl) (vE vA vI vQ vX:Value) (ins:List (List Int)) (aR:Option Addr) (gr rc N:Nat) (R:Nat→Nat) (F:Nat→Nat→Int) (now gd:Nat) (D:Nat→Bool)
  (h:RTab w0 w tb q g cap ts L vE vA vI vQ vX ins aR gr rc N R F now gd D) (H:Right ts L) (nm:ByteArray) (n:Nat) (hn:n≤now) (hN:now<N) :
  Calls Tryz.prog 101 #[.pointer (some ⟨tb,0,none⟩),.string nm,.int .i64 (n:Int)] w fun e w'=>e = .returned (vOk (knR ts L ins F D now nm.data.toList n))∧Below w.heap.size w w':=by
 obtain ⟨hf1,hf2⟩:=H.few
 obtain ⟨ai,ci,rfl,hshi⟩:=own_shape h.prog.ins
 obtain ⟨aq,cq,rfl,hshq⟩:=own_shape h.prog.eqs
 have HT:=hide h
 have HH:=hide H
 have HI:=hide hshi
 have HQ:=hide hshq
 have HP:Hid (∀ W,Below w.heap.size w W→RProg W q g cap ts L vE vA (.slice ai (inL L).length ci) (.slice aq (eqL L).length cq)∧Below w0.heap.size w0 W):=hide (fun W hW=>⟨HT.out.prog.below (HT.out.below hW).bel,(HT.out.below hW).bel⟩)
 clear h H hshi hshq
 go_enter Tryz.func101,Tryz.ntmps101
 go_wp2
 go_loopw [8] (fun vi wr=>∃ m:Nat,m≤(inL L).length∧vi = .int .i64 m∧Below w.heap.size w wr∧∀ j,(hj:j<m)→(hl:j<(inL L).length)→nmIs ts nm.data.toList ((inL L)[j]'hl)=false) (fun vi _=>(inL L).length - (intOf vi).toNat)
 case atStart=>exact ⟨0,Nat.zero_le _,rfl,Below.refl _ _,fun j hj=>by omega⟩
 case round=>
  obtain ⟨m,hm,rfl,hbx,hrec⟩:=hrel
  have hT:=HT.out.below hbx
  have c0:=hT.c0
  have c1:=hT.c1
  obtain ⟨hP,hb0⟩:=HP.out wr hbx
  have p3:=hP.c3
  have p4:=hP.c4
  have HRC:=hide hrec
  have HTB:=hide hT
  have HBX:=hide hbx
  clear hrec hT hP
  by_cases hml:m<(inL L).length
  ·obtain ⟨gi,rfl,_,hgi⟩:=HI.out (by omega)
   obtain ⟨x,hx⟩:∃ x,x=(inL L)[m]'hml:=⟨_,rfl⟩
   obtain ⟨y0,_,_,_,_,_⟩:=rd_later HT.out.prog.ins hb0 hgi hml (rdc ts x) (by rw [hx])
   rw [(rdc_tok ts x).2] at y0
   have j3:(0:Int)≤(m:Int):=by omega
   have j4:(m:Int)<((inL L).length:Int):=by omega
   obtain ⟨ee,qE⟩:∃ ee,((nameD ts x).toList == nm.toList)=ee:=⟨_,rfl⟩
   have eE:nmIs ts nm.data.toList ((inL L)[m]'hml)=ee:=by
    rw [← qE,ByteArray.toList_eq,ByteArray.toList_eq,← hx];rfl
   have HE:=hide eE
   generalize nameD ts x=nx at y0 qE
   clear eE hx
   cases ee
   ·go_wp2
    go_roundw
    case rel=>exact ⟨m+1,by omega,by go_num,by first | exact HBX.out | exact below_drewN HBX.out _,fun j hj hl=>by
     by_cases e:j=m
     ·subst e;exact HE.out
     ·exact HRC.out j (by omega) hl⟩
    case measure=>simp [intOf];omega
   ·have HK:Hid (knR ts L ins F D now nm.data.toList n=(elemF ins m n,true)):=hide (knR_in hml (fun j hj=>HRC.out j hj (by omega)) HE.out)
    have HCALL:=hide (fun W hW=>relement_any W vX ins (HT.out.lists.below hW) m n)
    go_wp2_with fail
    refine (HCALL.out _ hb0).mono ?_
    rintro e w1 ⟨rfl,hb1⟩
    go_wp2
    go_ret2
    exact ⟨by rw [HK.out];rfl,HBX.out.trans (hb1.mono HBX.out.size)⟩
  ·have em:m=(inL L).length:=by omega
   subst em
   have z1:¬ ((inL L).length:Int)<((inL L).length:Int):=by omega
   have HIN:Hid (inIx ts L nm.data.toList=none):=hide (in_none (fun j hj=>HRC.out j hj hj))
   clear HRC
   go_wp2
   go_loopw [10] (fun vi wx=>∃ m:Nat,m≤(eqL L).length∧vi = .int .i64 m∧Below w.heap.size w wx∧∀ j,(hj:j<m)→(hl:j<(eqL L).length)→nmIs ts nm.data.toList ((eqL L)[j]'hl)=true→(decide (n<now) || D j)=false) (fun vi _=>(eqL L).length - (intOf vi).toNat)
   case atStart=>exact ⟨0,Nat.zero_le _,rfl,by first | exact HBX.out | exact below_drewN HBX.out _,fun j hj=>by omega⟩
   case round=>
    clear c0 c1 p3 p4 HTB HBX hb0
    obtain ⟨m,hm,rfl,hbx,hrec⟩:=hrel
    have hT:=HT.out.below hbx
    have c0:=hT.c0
    have c2:=hT.c2
    have c3:=hT.c3
    have c4:=hT.c4
    obtain ⟨hP,hb0⟩:=HP.out wr hbx
    have p4:=hP.c4
    have HRC:=hide hrec
    have HTB:=hide hT
    have HBX:=hide hbx
    clear hrec hT hP
    by_cases hml:m<(eqL L).length
    ·obtain ⟨gq,rfl,_,hgq⟩:=HQ.out (by omega)
     have har:=HTB.out.aR (by omega)
     subst har
     obtain ⟨x,hx⟩:∃ x,x=(eqL L)[m]'hml:=⟨_,rfl⟩
     obtain ⟨y0,_,_,_,_,_⟩:=rd_later HT.out.prog.eqs hb0 hgq hml (rdc ts x) (by rw [hx])
     rw [(rdc_tok ts x).2] at y0
     have j3:(0:Int)≤(m:Int):=by omega
     have j4:(m:Int)<((eqL L).length:Int):=by omega
     have j5:(0:Int)≤(n:Int):=by omega
     have j6:(n:Int)<(N:Int):=by omega
     have o1:=HTB.out.mat.outer m hml
     have o2:=HTB.out.mat.cell (i:=m) (j:=n) hml (by omega)
     have o3:=HTB.out.done.cell hml
     obtain ⟨ee,qE⟩:∃ ee,((nameD ts x).toList == nm.toList)=ee:=⟨_,rfl⟩
     have eE:nmIs ts nm.data.toList ((eqL L)[m]'hml)=ee:=by
      rw [← qE,ByteArray.toList_eq,ByteArray.toList_eq,← hx];rfl
     have HE:=hide eE
     generalize nameD ts x=nx at y0 qE
     clear eE hx
     have HNX:Hid ((nmIs ts nm.data.toList ((eqL L)[m]'hml)=true→(decide (n<now) || D m)=false)→∀ j,(hj:j<m+1)→(hl:j<(eqL L).length)→nmIs ts nm.data.toList ((eqL L)[j]'hl)=true→(decide (n<now) || D j)=false):=hide (fun hh j hj hl=>by
      by_cases e:j=m
      ·subst e;exact hh
      ·exact HRC.out j (by omega) hl)
     cases ee
     ·have HN2:=hide (HNX.out (fun h=>by rw [HE.out] at h;cases h))
      clear HNX HRC HE o3 c3 c4
      go_wp2
      go_roundw
      case rel=>exact ⟨m+1,by omega,by go_num,by first | exact HBX.out | exact below_drewN HBX.out _,HN2.out⟩
      case measure=>simp [intOf];omega
     ·have HKN:Hid ((decide (n<now) || D m)=true→knR ts L ins F D now nm.data.toList n=(F m n,true)):=hide (knR_eq HH.out HIN.out hml HE.out)
      generalize D m=dm at o3 HKN HNX
      generalize F m n=fm at o2 HKN
      clear HRC
      by_cases hlt:n<now
      ·have HK:=hide (HKN.out (by rw [decide_eq_true hlt];rfl))
       have q1:(n:Int)<(now:Int):=by omega
       clear HNX HKN HE
       go_wp2
       go_ret2
       exact ⟨by rw [HK.out];rfl,by first | exact HBX.out | exact below_drewN HBX.out _⟩
      ·have q1:¬ (n:Int)<(now:Int):=by omega
       cases dm
       ·have HN2:=hide (HNX.out (fun _=>by rw [decide_eq_false hlt];rfl))
        clear HNX HKN HE
        go_wp2
        go_roundw
        case rel=>exact ⟨m+1,by omega,by go_num,by first | exact HBX.out | exact below_drewN HBX.out _,HN2.out⟩
        case measure=>simp [intOf];omega
       ·have HK:=hide (HKN.out (by simp))
        clear HNX HKN HE
        go_wp2
        go_ret2
        exact ⟨by rw [HK.out];rfl,by first | exact HBX.out | exact below_drewN HBX.out _⟩
    ·have em:m=(eqL L).length:=by omega
     subst em
     have z2:¬ ((eqL L).length:Int)<((eqL L).length:Int):=by omega
     have HK:Hid (knR ts L ins F D now nm.data.toList n=(0,false)):=hide (knR_none HIN.out (fun j hj=>HRC.out j hj hj))
     clear HRC
     go_wp2
     go_ret2
     exact ⟨by rw [HK.out];rfl,HBX.out⟩
theorem evR_ite (ts:List Tk) (V:List UInt8→Nat→Int × Bool) (a b c:Ast) (i n:Nat):evR ts V (.ite a b c) i n=(if (evR ts V a (i+2) n).1=1 then (evR ts V b (i+2+a.len) n).1 else (evR ts V c (i+2+a.len+b.len) n).1,(evR ts V a (i+2) n).2 && ((evR ts V b (i+2+a.len) n).2 && (evR ts V c (i+2+a.len+b.len) n).2)):=rfl
theorem evR_bin (ts:List Tk) (V:List UInt8→Nat→Int × Bool) (a b:Ast) (i n:Nat):evR ts V (.bin a b) i n=(apF (lAt ts (i+1+a.len)) (evR ts V a (i+1) n).1 (evR ts V b (i+2+a.len) n).1,(evR ts V a (i+1) n).2 && (evR ts V b (i+2+a.len) n).2):=rfl
theorem evR_lit (ts:List Tk) (V:List UInt8→Nat→Int × Bool) (i n:Nat) (h:(tkAt ts i).kind≠1):evR ts V .leaf i n=(litV (tkAt ts i),true):=by unfold evR;rw [if_neg h]
theorem lit_kind {t:Tk} (hF:TkF t) (h:litT t=true):t.kind≠1:=by
 intro hk
 unfold litT at h
 have:=hF.k1 hk
 simp only [Bool.or_eq_true,beq_iff_eq] at h
 rcases h with (h | h) | h
 all_goals first
  | (rw [hk] at h;cases h)
  | (rw [h] at this;revert this;decide)
theorem open_cls {ts:List Tk}{i:Nat}{a:RTk} (hF:∀ i,TkF (tkAt ts i)) (h:lAt ts i=[40]) (ha:a=rtok (tkAt ts i)):((a.c:Int) == 110)=false∧((a.c:Int) == 97)=false:=by
 have h1:(tkAt ts i).kind≠1:=fun e=>by have:=(hF i).k1 e;rw [show (tkAt ts i).l=[40] from h] at this;revert this;decide
 have h3:(tkAt ts i).kind≠3:=fun e=>by have:=(hF i).k3 e;rw [show (tkAt ts i).l=[40] from h] at this;revert this;decide
 have hc1:=c97 (tkAt ts i)
 have hc3:=c110 (tkAt ts i)
 rw [← ha] at hc1 hc3
 refine ⟨?_,?_⟩
 ·rw [show (110:Int)=((110:Nat):Int) from rfl,beq_cast,hc3];exact beq_eq_false_iff_ne.2 h3
 ·rw [show (97:Int)=((97:Nat):Int) from rfl,beq_cast,hc1];exact beq_eq_false_iff_ne.2 h1
theorem op_word {l l':List UInt8} (h:(opOf l').isSome=true) (kw:∀ x,kwL.contains x=true→(l=x↔l'=x)):l=l':=by
 refine (kw l' ?_).2 rfl
 rcases op_cases l' with e | e | e | e | e | e | e | e | ⟨h1,h2,h3,h4,h5,h6,h7,h8⟩
 all_goals first
  | (rw [e];decide)
  | (unfold opOf at h;rw [if_neg h1,if_neg h2,if_neg h3,if_neg h4,if_neg h5,if_neg h6,if_neg h7,if_neg h8] at h;cases h)
set_option maxHeartbeats 4000000 in
set_option maxRecDepth 100000 in
theorem rvalue_any (w0:World) (tb q g cap:Nat) (ts:List Tk) (L:List Dl) (vE vA vI vQ vX:Value) (ins:List (List Int)) (aR:Option Addr) (gr rc N:Nat) (R:Nat→Nat) (F:Nat→Nat→Int) (now gd:Nat) (D:Nat→Bool)
  (H:Right ts L) (ho:ROk ts L) (hN:now<N) (hN2:N≤1000000):∀ (z:Nat) (t:Ast) (i n:Nat) (w:World),t.size≤z→RTab w0 w tb q g cap ts L vE vA vI vQ vX ins aR gr rc N R F now gd D→Sp ts t i→i+t.len<ts.length→n≤now→
  Calls Tryz.prog 79 #[.pointer (some ⟨tb,0,none⟩),.int .i64 (i:Int),.int .i64 (n:Int)] w fun e w'=>e = .returned (vOk (evR ts (knR ts L ins F D now) t i n))∧Below w.heap.size w w':=by
 intro z
 induction z with
 | zero=>intro t i n w hz;have:=t.size_pos;omega
 | succ z ih=>
  intro t i n w hz h hs hl hn
  have hlen:=ho.len
  have hpos:=ho.pos
  have hF:=ho.F
  have hil:i<ts.length:=by omega
  obtain ⟨gE,capE,rfl,_,hgE⟩:=h.prog.ends.form (by omega)
  obtain ⟨a,ha⟩:∃ a,a=rtok (tkAt ts i):=⟨_,rfl⟩
  have P0:=h.prog.below h.bel
  have b0:=h.c0
  have c0:=P0.c0
  obtain ⟨x0,x1,x2,x3⟩:=P0.toks.cells (Below.refl _ _) hil a ha
  have HPR:Hid (∀ W,Below w.heap.size w W→W.cell? ⟨q,0,none⟩=some (.slice (some ⟨g,0,none⟩) ts.length cap)∧W.cell? ⟨q,1,none⟩=some (.slice (some ⟨gE,0,none⟩) ts.length capE)∧(∀ k,k<ts.length→W.cell? ⟨g,k * 4+1,none⟩=some (.string (rtok (tkAt ts k)).word))∧(∀ k,k<ts.length→W.cell? ⟨gE,k,none⟩=some (.int .i64 (behindF ts k:Nat)))):=hide (fun W hW=>by
   have hP:=h.prog.below (h.below hW).bel
   exact ⟨hP.c0,hP.c1,fun k hk=>(hP.toks.cells (Below.refl _ _) hk _ rfl).2.1,fun k hk=>end_later h.prog.ends (h.below hW).bel hgE hk⟩)
  have hc1:=c97 (tkAt ts i)
  have hc3:=c110 (tkAt ts i)
  rw [← ha] at hc1 hc3
  have hk40:=(ho.F i).kw [40] (by decide)
  have hkt:=(ho.F i).kw kTrue (by decide)
  rw [← ha] at hk40 hkt
  have j1:(0:Int)≤(i:Int):=by omega
  have j2:(i:Int)<(ts.length:Int):=by omega
  have HT:=hide h
  have HIH:=hide ih
  have HFF:=hide hF
  have HH:=hide H
  have HAL:Hid (∀ o,Below w.heap.size w (w.alloc o)):=hide (fun o=>(Below.refl _ _).alloc (Nat.le_refl _) o)
  clear h ih hF H ho P0
  cases t with
  | leaf=>
   clear HIH HPR
   by_cases hk3:(tkAt ts i).kind=3
   ·have q2:((a.c:Int) == 110)=true:=by rw [show (110:Int)=((110:Nat):Int) from rfl,beq_cast,hc3,hk3];rfl
    have HV:Hid (evR ts (knR ts L ins F D now) .leaf i n=((a.n:Int),true)):=hide (by
     rw [evR_lit ts _ i n (by omega)];unfold litV;rw [if_pos hk3,ha];unfold rtok;simp [hk3];rfl)
    clear ha hc1 hc3 hk40 hkt hk3 hs
    go_enter Tryz.func79,Tryz.ntmps79
    go_wp2
    go_ret2
    exact ⟨by rw [HV.out];rfl,HAL.out _⟩
   have q2:((a.c:Int) == 110)=false:=by rw [show (110:Int)=((110:Nat):Int) from rfl,beq_cast,hc3];exact beq_eq_false_iff_ne.2 hk3
   by_cases hk1:(tkAt ts i).kind=1
   ·have q1:((a.c:Int) == 97)=true:=by rw [show (97:Int)=((97:Nat):Int) from rfl,beq_cast,hc1,hk1];rfl
    have hw:a.word=(tkAt ts i).text:=by rw [ha];unfold rtok;simp [hk1]
    have HV:Hid (evR ts (knR ts L ins F D now) .leaf i n=knR ts L ins F D now a.word.data.toList n):=hide (by
     unfold evR;rw [if_pos hk1,hw];rfl)
    have HCALL:=hide (fun W hW=>rnamed_any w0 W tb q g cap ts L (.slice (some ⟨gE,0,none⟩) ts.length capE) vA vI vQ vX ins aR gr rc N R F now gd D hW HH.out a.word n hn hN)
    clear ha hc1 hc3 hk40 hkt hk3 hs hw hk1
    go_enter Tryz.func79,Tryz.ntmps79
    go_wp2_with fail
    refine (HCALL.out _ (HT.out.below (HAL.out _))).mono ?_
    rintro e w1 ⟨rfl,hb1⟩
    go_wp2
    go_ret2
    exact ⟨by rw [HV.out];rfl,(HAL.out _).trans (hb1.mono (by simp))⟩
   have q1:((a.c:Int) == 97)=false:=by rw [show (97:Int)=((97:Nat):Int) from rfl,beq_cast,hc1];exact beq_eq_false_iff_ne.2 hk1
   have q3:=str_no (t:=a.word) (fun e=>hs.2 (hk40.1 e))
   obtain ⟨tt,qT⟩:∃ tt,(a.word.toList == [116,114,117,101])=tt:=⟨_,rfl⟩
   have HV:Hid (evR ts (knR ts L ins F D now) .leaf i n=(b2i tt,true)):=hide (by
    rw [evR_lit ts _ i n hk1];unfold litV;rw [if_neg hk3]
    congr 2
    rw [← qT,ByteArray.toList_eq]
    by_cases e:a.l=kTrue
    ·rw [decide_eq_true (hkt.1 e)];symm;rw [beq_iff_eq];exact e
    ·rw [decide_eq_false (fun h=>e (hkt.2 h))];symm;rw [beq_eq_false_iff_ne];exact e)
   have HN:=hide (fun W=>rnumber_any W tt)
   clear ha hc1 hc3 hk40 hkt hk3 hs hk1
   cases tt
   all_goals
    go_enter Tryz.func79,Tryz.ntmps79
    go_wp2_with fail
    refine (HN.out _).mono ?_
    rintro e w1 ⟨rfl,hb1⟩
    go_wp2
    go_ret2
    exact ⟨by rw [HV.out];rfl,(HAL.out _).trans (hb1.mono (by simp))⟩
  | neg b=>
   obtain ⟨h1,h2,h3,h4⟩:=hs
   simp only [Ast.len] at hl
   simp only [Ast.size] at hz
   have q1:=str_yes (t:=a.word) (hk40.2 h1)
   obtain ⟨n1,n2⟩:=open_cls HFF.out h1 ha
   have c0a:∀ o,(w.alloc o).cell? ⟨q,0,none⟩=some (.slice (some ⟨g,0,none⟩) ts.length cap):=fun o=>(HPR.out _ (HAL.out o)).1
   have w1:∀ o,(w.alloc o).cell? ⟨g,(i+1) * 4+1,none⟩=some (.string (rtok (tkAt ts (i+1))).word):=fun o=>(HPR.out _ (HAL.out o)).2.2.1 (i+1) (by omega)
   have q2:=str_yes (t:=(rtok (tkAt ts (i+1))).word) (((HFF.out (i+1)).kw kNot (by decide)).2 h2)
   simp only [kNot] at q2
   generalize rtok (tkAt ts (i+1))=a1 at w1 q2
   have j3:(0:Int)≤(i:Int)+1:=by omega
   have j4:(i:Int)+1<(ts.length:Int):=by omega
   have HCALL:=hide (fun W hW=>HIH.out b (i+2) n W (by omega) hW h3 (by omega) hn)
   have HV:Hid (evR ts (knR ts L ins F D now) b.neg i n=(w64 (1 - (evR ts (knR ts L ins F D now) b (i+2) n).1),(evR ts (knR ts L ins F D now) b (i+2) n).2)):=hide rfl
   generalize evR ts (knR ts L ins F D now) b (i+2) n=r at HCALL HV
   clear ha hc1 hc3 hk40 hkt h1 h2 h3 h4 HIH HPR
   go_enter Tryz.func79,Tryz.ntmps79
   go_wp2_with fail
   refine (HCALL.out _ (HT.out.below (HAL.out _))).mono ?_
   rintro e w1 ⟨rfl,hb1⟩
   go_wp2
   go_ret2
   exact ⟨by rw [HV.out];rfl,(HAL.out _).trans (hb1.mono (by simp))⟩
  | ite b c d=>
   obtain ⟨h1,h2,h3,h4,h5,h6⟩:=hs
   simp only [Ast.len] at hl
   simp only [Ast.size] at hz
   have q1:=str_yes (t:=a.word) (hk40.2 h1)
   obtain ⟨n1,n2⟩:=open_cls HFF.out h1 ha
   have c0a:∀ o,(w.alloc o).cell? ⟨q,0,none⟩=some (.slice (some ⟨g,0,none⟩) ts.length cap):=fun o=>(HPR.out _ (HAL.out o)).1
   have c1a:∀ o,(w.alloc o).cell? ⟨q,1,none⟩=some (.slice (some ⟨gE,0,none⟩) ts.length capE):=fun o=>(HPR.out _ (HAL.out o)).2.1
   have w1:∀ o,(w.alloc o).cell? ⟨g,(i+1) * 4+1,none⟩=some (.string (rtok (tkAt ts (i+1))).word):=fun o=>(HPR.out _ (HAL.out o)).2.2.1 (i+1) (by omega)
   have q2:=str_yes (t:=(rtok (tkAt ts (i+1))).word) (((HFF.out (i+1)).kw kIf (by decide)).2 h2)
   simp only [kIf] at q2
   generalize rtok (tkAt ts (i+1))=a1 at w1 q2
   obtain ⟨m1,hm1⟩:∃ m,m=i+2+b.len:=⟨_,rfl⟩
   obtain ⟨m2,hm2⟩:∃ m,m=i+2+b.len+c.len:=⟨_,rfl⟩
   have r1:∀ o,(w.alloc o).cell? ⟨gE,i+2,none⟩=some (.int .i64 (m1:Int)):=fun o=>by
    have:=(HPR.out _ (HAL.out o)).2.2.2 (i+2) (by omega)
    rwa [behind_sp HFF.out b (i+2) h3 (by omega),← hm1] at this
   have HR2:Hid (∀ W,Below w.heap.size w W→W.cell? ⟨q,1,none⟩=some (.slice (some ⟨gE,0,none⟩) ts.length capE)∧W.cell? ⟨gE,m1,none⟩=some (.int .i64 (m2:Int))):=hide (fun W hW=>by
    have:=(HPR.out W hW).2.2.2 (i+2+b.len) (by omega)
    rw [behind_sp HFF.out c (i+2+b.len) h4 (by omega),← hm2,← hm1] at this
    exact ⟨(HPR.out W hW).2.1,this⟩)
   have j3:(0:Int)≤(i:Int)+1:=by omega
   have j4:(i:Int)+1<(ts.length:Int):=by omega
   have j5:(0:Int)≤(i:Int)+2:=by omega
   have j6:(i:Int)+2<(ts.length:Int):=by omega
   have j7:(0:Int)≤(m1:Int):=by omega
   have j8:(m1:Int)<(ts.length:Int):=by omega
   have HV:=hide (evR_ite ts (knR ts L ins F D now) b c d i n)
   rw [← hm2,← hm1] at HV
   have HC1:=hide (fun W hW=>HIH.out b (i+2) n W (by omega) hW h3 (by omega) hn)
   have HC2:=hide (fun W hW=>HIH.out c m1 n W (by omega) hW (by rw [hm1];exact h4) (by omega) hn)
   have HC3:=hide (fun W hW=>HIH.out d m2 n W (by omega) hW (by rw [hm2];exact h5) (by omega) hn)
   generalize evR ts (knR ts L ins F D now) b (i+2) n=rb at HC1 HV
   generalize evR ts (knR ts L ins F D now) c m1 n=rc' at HC2 HV
   generalize evR ts (knR ts L ins F D now) d m2 n=rd at HC3 HV
   obtain ⟨vb,kb⟩:=rb
   obtain ⟨vc,kc⟩:=rc'
   obtain ⟨vd,kd⟩:=rd
   simp only [vOk] at HC1 HC2 HC3
   clear ha hc1 hc3 hk40 hkt h1 h2 h3 h4 h5 h6 HIH HPR hm1 hm2
   have hcs:vb=1∨(vb == 1)=false:=by by_cases e:vb=1 <;> simp [e]
   have HVK:Hid ((kb && (kc && kd))=((kb && kc) && kd)):=hide (by cases kb <;> rfl)
   go_enter Tryz.func79,Tryz.ntmps79
   go_wp2_with fail
   refine (HC1.out _ (HT.out.below (HAL.out _))).mono ?_
   rintro e w1 ⟨rfl,hb1⟩
   have HB1:=hide ((HAL.out _).trans (hb1.mono (by simp)))
   clear hb1
   go_wp2_with fail
   refine (HC2.out _ (HT.out.below HB1.out)).mono ?_
   rintro e w2 ⟨rfl,hb2⟩
   have HB2:=hide (HB1.out.trans (hb2.mono HB1.out.size))
   clear hb2
   obtain ⟨u1,u2⟩:=HR2.out w2 HB2.out
   go_wp2_with fail
   refine (HC3.out _ (HT.out.below HB2.out)).mono ?_
   rintro e w3 ⟨rfl,hb3⟩
   have HB3:=hide (HB2.out.trans (hb3.mono HB2.out.size))
   clear hb3
   rcases hcs with rfl | qv
   all_goals
    cases kb <;> cases kc
    all_goals
     go_wp2
     go_ret2
     exact ⟨by rw [HV.out];simp_all,HB3.out⟩
  | dly b=>
   obtain ⟨h1,h2,h3,h4,h5⟩:=hs
   simp only [Ast.len] at hl
   simp only [Ast.size] at hz
   have hlf:leafT (tkAt ts (i+1))=true:=by unfold leafT;rw [h2];rfl
   obtain ⟨k1,k2,k3,_⟩:=leaf_ne2 HFF.out hlf
   have q1:=str_yes (t:=a.word) (hk40.2 h1)
   obtain ⟨n1,n2⟩:=open_cls HFF.out h1 ha
   have c0a:∀ o,(w.alloc o).cell? ⟨q,0,none⟩=some (.slice (some ⟨g,0,none⟩) ts.length cap):=fun o=>(HPR.out _ (HAL.out o)).1
   have c1a:∀ o,(w.alloc o).cell? ⟨q,1,none⟩=some (.slice (some ⟨gE,0,none⟩) ts.length capE):=fun o=>(HPR.out _ (HAL.out o)).2.1
   have w1:∀ o,(w.alloc o).cell? ⟨g,(i+1) * 4+1,none⟩=some (.string (rtok (tkAt ts (i+1))).word):=fun o=>(HPR.out _ (HAL.out o)).2.2.1 (i+1) (by omega)
   have q2:=str_no (t:=(rtok (tkAt ts (i+1))).word) (fun e=>k1 (((HFF.out (i+1)).kw kNot (by decide)).1 e))
   have q3:=str_no (t:=(rtok (tkAt ts (i+1))).word) (fun e=>k2 (((HFF.out (i+1)).kw kIf (by decide)).1 e))
   simp only [kNot] at q2
   simp only [kIf] at q3
   generalize rtok (tkAt ts (i+1))=a1 at w1 q2 q3
   obtain ⟨m1,hm1⟩:∃ m,m=i+2:=⟨_,rfl⟩
   have e1:i+1+Ast.leaf.len=m1:=by rw [hm1];rfl
   have r1:∀ o,(w.alloc o).cell? ⟨gE,i+1,none⟩=some (.int .i64 (m1:Int)):=fun o=>by
    have:=(HPR.out _ (HAL.out o)).2.2.2 (i+1) (by omega)
    rwa [behind_sp HFF.out .leaf (i+1) ⟨hlf,k3⟩ (by simp only [Ast.len];omega),e1] at this
   have w2:∀ o,(w.alloc o).cell? ⟨g,m1 * 4+1,none⟩=some (.string (rtok (tkAt ts m1)).word):=fun o=>(HPR.out _ (HAL.out o)).2.2.1 m1 (by omega)
   have q4:=str_yes (t:=(rtok (tkAt ts m1)).word) (((HFF.out m1).kw kFby (by decide)).2 (by rw [hm1];exact h3))
   simp only [kFby] at q4
   generalize rtok (tkAt ts m1)=a2 at w2 q4
   have j3:(0:Int)≤(i:Int)+1:=by omega
   have j4:(i:Int)+1<(ts.length:Int):=by omega
   have j7:(0:Int)≤(m1:Int):=by omega
   have j8:(m1:Int)<(ts.length:Int):=by omega
   by_cases hn0:n=0
   ·subst hn0
    have HV:Hid (evR ts (knR ts L ins F D now) b.dly i 0=evR ts (knR ts L ins F D now) .leaf (i+1) 0):=hide (by
     rw [evR_lit ts _ (i+1) 0 (lit_kind (HFF.out (i+1)) h2)];rfl)
    have HCALL:=hide (fun W hW=>HIH.out .leaf (i+1) 0 W (by simp only [Ast.size];have:=b.size_pos;omega) hW ⟨hlf,k3⟩ (by simp only [Ast.len];omega) (Nat.zero_le _))
    generalize evR ts (knR ts L ins F D now) .leaf (i+1) 0=r at HCALL HV
    clear ha hc1 hc3 hk40 hkt h1 h2 h3 h4 h5 hm1 k1 k2 k3 hlf e1 HIH HPR
    go_enter Tryz.func79,Tryz.ntmps79
    go_wp2_with fail
    refine (HCALL.out _ (HT.out.below (HAL.out _))).mono ?_
    rintro e w1 ⟨rfl,hb1⟩
    go_wp2
    go_ret2
    exact ⟨by rw [HV.out];rfl,(HAL.out _).trans (hb1.mono (by simp))⟩
   ·obtain ⟨p,rfl⟩:∃ p,n=p+1:=⟨n - 1,by omega⟩
    have HV:Hid (evR ts (knR ts L ins F D now) b.dly i (p+1)=evR ts (knR ts L ins F D now) b (i+3) p):=hide rfl
    have HCALL:=hide (fun W hW=>HIH.out b (i+3) p W (by omega) hW h4 (by omega) (by omega))
    have HM:Hid (((i+3:Nat):Int)=(m1:Int)+1):=hide (by omega)
    generalize evR ts (knR ts L ins F D now) b (i+3) p=r at HCALL HV
    rw [HM.out] at HCALL
    have q5:(((p+1:Nat):Int) == 0)=false:=by rw [beq_eq_false_iff_ne];omega
    have hpn:(p:Int)≤1000000:=by omega
    clear ha hc1 hc3 hk40 hkt h1 h2 h3 h4 h5 hm1 k1 k2 k3 hlf e1 HIH HPR
    go_enter Tryz.func79,Tryz.ntmps79
    go_wp2_with fail
    refine (HCALL.out _ (HT.out.below (HAL.out _))).mono ?_
    rintro e w1 ⟨rfl,hb1⟩
    go_wp2
    go_ret2
    exact ⟨by rw [HV.out];rfl,(HAL.out _).trans (hb1.mono (by simp))⟩
  | bin b c=>
   obtain ⟨h1,h2,h3,h4,h5⟩:=hs
   simp only [Ast.len] at hl
   simp only [Ast.size] at hz
   obtain ⟨k1,k2⟩:=sp_first HFF.out h2
   have q1:=str_yes (t:=a.word) (hk40.2 h1)
   obtain ⟨n1,n2⟩:=open_cls HFF.out h1 ha
   have c0a:∀ o,(w.alloc o).cell? ⟨q,0,none⟩=some (.slice (some ⟨g,0,none⟩) ts.length cap):=fun o=>(HPR.out _ (HAL.out o)).1
   have c1a:∀ o,(w.alloc o).cell? ⟨q,1,none⟩=some (.slice (some ⟨gE,0,none⟩) ts.length capE):=fun o=>(HPR.out _ (HAL.out o)).2.1
   have w1:∀ o,(w.alloc o).cell? ⟨g,(i+1) * 4+1,none⟩=some (.string (rtok (tkAt ts (i+1))).word):=fun o=>(HPR.out _ (HAL.out o)).2.2.1 (i+1) (by omega)
   have q2:=str_no (t:=(rtok (tkAt ts (i+1))).word) (fun e=>k1 (((HFF.out (i+1)).kw kNot (by decide)).1 e))
   have q3:=str_no (t:=(rtok (tkAt ts (i+1))).word) (fun e=>k2 (((HFF.out (i+1)).kw kIf (by decide)).1 e))
   simp only [kNot] at q2
   simp only [kIf] at q3
   generalize rtok (tkAt ts (i+1))=a1 at w1 q2 q3
   obtain ⟨m1,hm1⟩:∃ m,m=i+1+b.len:=⟨_,rfl⟩
   rw [← hm1] at h3
   have r1:∀ o,(w.alloc o).cell? ⟨gE,i+1,none⟩=some (.int .i64 (m1:Int)):=fun o=>by
    have:=(HPR.out _ (HAL.out o)).2.2.2 (i+1) (by omega)
    rwa [behind_sp HFF.out b (i+1) h2 (by omega),← hm1] at this
   have w2:∀ o,(w.alloc o).cell? ⟨g,m1 * 4+1,none⟩=some (.string (rtok (tkAt ts m1)).word):=fun o=>(HPR.out _ (HAL.out o)).2.2.1 m1 (by omega)
   have kw2:∀ l,kwL.contains l=true→((rtok (tkAt ts m1)).l=l↔lAt ts m1=l):=fun l hl=>(HFF.out m1).kw l hl
   have q4:=str_no (t:=(rtok (tkAt ts m1)).word) (fun e=>(op_ne h3).2.2.2 ((kw2 kFby (by decide)).1 e))
   simp only [kFby] at q4
   have hop:(rtok (tkAt ts m1)).word.data.toList=lAt ts m1:=op_word h3 kw2
   have HW2:Hid (∀ W,Below w.heap.size w W→W.cell? ⟨q,0,none⟩=some (.slice (some ⟨g,0,none⟩) ts.length cap)∧W.cell? ⟨g,m1 * 4+1,none⟩=some (.string (rtok (tkAt ts m1)).word)):=hide (fun W hW=>⟨(HPR.out W hW).1,(HPR.out W hW).2.2.1 m1 (by omega)⟩)
   have HV:=hide (evR_bin ts (knR ts L ins F D now) b c i n)
   rw [show i+2+b.len=m1+1 by omega,← hm1,← hop] at HV
   generalize rtok (tkAt ts m1)=a2 at w2 q4 HW2 HV
   have j3:(0:Int)≤(i:Int)+1:=by omega
   have j4:(i:Int)+1<(ts.length:Int):=by omega
   have j7:(0:Int)≤(m1:Int):=by omega
   have j8:(m1:Int)<(ts.length:Int):=by omega
   have HC1:=hide (fun W hW=>HIH.out b (i+1) n W (by omega) hW h2 (by omega) hn)
   have HC2:=hide (fun W hW=>HIH.out c (m1+1) n W (by omega) hW (by rw [hm1,show i+1+b.len+1=i+2+b.len by omega];exact h4) (by omega) hn)
   generalize evR ts (knR ts L ins F D now) b (i+1) n=rb at HC1 HV
   generalize evR ts (knR ts L ins F D now) c (m1+1) n=rc' at HC2 HV
   obtain ⟨vb,kb⟩:=rb
   obtain ⟨vc,kc⟩:=rc'
   simp only [vOk] at HC1 HC2
   have HAP:=hide (fun W=>rapply_any a2.word W vb vc)
   clear ha hc1 hc3 hk40 hkt h1 h2 h3 h4 h5 HIH HPR hm1 k1 k2 kw2 hop
   go_enter Tryz.func79,Tryz.ntmps79
   go_wp2_with fail
   refine (HC1.out _ (HT.out.below (HAL.out _))).mono ?_
   rintro e w1 ⟨rfl,hb1⟩
   have HB1:=hide ((HAL.out _).trans (hb1.mono (by simp)))
   clear hb1
   go_wp2_with fail
   refine (HC2.out _ (HT.out.below HB1.out)).mono ?_
   rintro e w2 ⟨rfl,hb2⟩
   have HB2:=hide (HB1.out.trans (hb2.mono HB1.out.size))
   clear hb2
   obtain ⟨u1,u2⟩:=HW2.out w2 HB2.out
   go_wp2_with fail
   refine (HAP.out _).mono ?_
   rintro e w3 ⟨rfl,hb3⟩
   have HB3:=hide (HB2.out.trans (hb3.mono HB2.out.size))
   clear hb3
   cases kb
   all_goals
    go_wp2
    go_ret2
    exact ⟨by rw [HV.out];rfl,HB3.out⟩
end Go.Proofs.YtmndgoapkmhglabGreat
