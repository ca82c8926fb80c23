import Derived.Test.YtmndgoapkmhglabGreatM23RefK
namespace Go.Proofs.YtmndgoapkmhglabGreat
open Go.RowKit
attribute [local go_sem ↓] Go.wp_at_zero Go.wp_at_succ
theorem sp_near {ts:List Tk} (hF:∀ i,TkF (tkAt ts i)) {t:Ast}{i:Nat} (h:Sp ts t i) (hl:i+t.len<ts.length) (h40:lAt ts i=[40]) :
  i+1<ts.length∧(lAt ts (i+1)≠kNot→lAt ts (i+1)≠kIf→behindF ts (i+1)<ts.length):=by
 have hp:=t.len_pos
 cases t with
 | leaf=>exact absurd h40 h.2
 | neg a=>simp only [Ast.len] at hl;exact ⟨by omega,fun h1 _=>absurd h.2.1 h1⟩
 | ite a b c=>simp only [Ast.len] at hl;exact ⟨by omega,fun _ h2=>absurd h.2.1 h2⟩
 | dly b=>
  simp only [Ast.len] at hl
  have hlf:leafT (tkAt ts (i+1))=true:=by unfold leafT;rw [h.2.1];rfl
  refine ⟨by omega,fun _ _=>?_⟩
  rw [behind_sp hF .leaf (i+1) ⟨hlf,(leaf_ne2 hF hlf).2.2.1⟩ (by simp only [Ast.len];omega)]
  simp only [Ast.len];omega
 | bin a b=>
  simp only [Ast.len] at hl
  refine ⟨by omega,fun _ _=>?_⟩
  rw [behind_sp hF a (i+1) h.2.1 (by omega)];omega
theorem rdc_truth (ts:List Tk) {x:Dl} (h:x.kind≠0):(rdc ts x).truth=(x.kind == 2)∧(rdc ts x).body=x.i+5∧(rdc ts x).place=placeD ts x:=by unfold rdc;rw [if_neg h];exact ⟨rfl,rfl,rfl⟩
theorem tok_box (t:RTk) (w:World) {w1:World} (hb:Below (w.heap.size+1) (w.alloc (.cells #[.int .u8 (t.c:Int),.string t.word,.int .i64 (t.pos:Int),.int .i64 (t.n:Int)] 108)) w1) :
  w1.cell? ⟨w.heap.size,0,none⟩=some (.int .u8 (t.c:Int))∧w1.cell? ⟨w.heap.size,1,none⟩=some (.string t.word)∧Below w.heap.size w w1:=by
 have hb':Below (w.alloc (.cells #[.int .u8 (t.c:Int),.string t.word,.int .i64 (t.pos:Int),.int .i64 (t.n:Int)] 108)).heap.size (w.alloc (.cells #[.int .u8 (t.c:Int),.string t.word,.int .i64 (t.pos:Int),.int .i64 (t.n:Int)] 108)) w1:=by
  have e:(w.alloc (.cells #[.int .u8 (t.c:Int),.string t.word,.int .i64 (t.pos:Int),.int .i64 (t.n:Int)] 108)).heap.size=w.heap.size+1:=by simp
  rw [e];exact hb
 obtain ⟨a,b,_,_,c⟩:=tok_step t w w1 hb'
 exact ⟨a,b,c⟩
set_option maxHeartbeats 2000000 in
theorem ris_any (w:World) (q g cap:Nat) (ts:List Tk) (L:List Dl) (vE vA vI vQ:Value) (h:RProg w q g cap ts L vE vA vI vQ) (ho:ROk ts L) (t:Ast) (i:Nat) (hs:Sp ts t i) (hl:i+t.len<ts.length) :
  Calls Tryz.prog 98 #[.pointer (some ⟨q,0,none⟩),.int .i64 (i:Int)] w fun e w'=>e = .returned (.int .u8 (isR ts L i:Nat))∧Below w.heap.size w w':=by
 have hlen:=ho.len
 have hpos:=ho.pos
 have hnear:=sp_near ho.F hs hl
 obtain ⟨hm1,hm2,hm3⟩:=ho.many
 obtain ⟨av,cv,rfl,hsh⟩:=own_shape h.eqs
 obtain ⟨gE,capE,rfl,_,hgE⟩:=h.ends.form (by omega)
 have hil:i<ts.length:=by omega
 obtain ⟨a,ha⟩:∃ a,a=rtok (tkAt ts i):=⟨_,rfl⟩
 have c0:=h.c0
 obtain ⟨x0,x1,x2,x3⟩:=h.toks.cells (Below.refl _ _) hil a ha
 have hc1:=c97 (tkAt ts i)
 have hc3:=c110 (tkAt ts i)
 rw [← ha] at hc1 hc3
 have hk40:=(ho.F i).kw [40] (by decide)
 rw [← ha] at hk40
 have j1:(0:Int)≤(i:Int):=by omega
 have j2:(i:Int)<(ts.length:Int):=by omega
 have HR:=hide h
 have HO:=hide ho
 have HSH:=hide hsh
 clear h ho hsh hs
 by_cases hk1:(tkAt ts i).kind=1
 ·have q1:((a.c:Int) == 97)=true:=by rw [show (97:Int)=((97:Nat):Int) from rfl,beq_cast,hc1,hk1];rfl
  have hw:a.word=(tkAt ts i).text:=by rw [ha];unfold rtok;simp [hk1]
  have HIS:Hid (isR ts L i=if nameT ts L i then 116 else 110):=hide (by unfold isR;rw [if_pos hk1])
  have HWD:=hide hw
  have c4:∀ o,(w.alloc o).cell? ⟨q,4,none⟩=some (.slice av (eqL L).length cv):=fun o=>by rw [World.cell?_alloc_past _ _ _ HR.out.lt];exact HR.out.c4
  clear hw hk1 ha hc1 hc3 hk40 hnear
  go_enter Tryz.func98,Tryz.ntmps98
  go_wp2
  go_loopw [6] (fun vj wx=>∃ m:Nat,m≤(eqL L).length∧vj = .int .i64 m∧Below (w.heap.size+1) (w.alloc (.cells #[.int .u8 (a.c:Int),.string a.word,.int .i64 (a.pos:Int),.int .i64 (a.n:Int)] 108)) wx∧((eqL L).drop m).any (fun x=>(nameD ts x).data.toList == lAt ts i && x.kind == 2)=nameT ts L i) (fun vj _=>(eqL L).length - (intOf vj).toNat)
  case atStart=>exact ⟨0,Nat.zero_le _,rfl,Below.refl _ _,rfl⟩
  case round=>
   clear c4 c0 x0 x1 x2 x3
   obtain ⟨m,hm,rfl,hbx,hrec⟩:=hrel
   obtain ⟨t0,t1,hbw⟩:=tok_box a w hbx
   have c4:=(HR.out.below hbw).c4
   by_cases hml:m<(eqL L).length
   ·obtain ⟨gq,hgq,_,hgq2⟩:=HSH.out (by omega)
    subst hgq
    obtain ⟨x,hx⟩:∃ x,x=(eqL L)[m]'hml:=⟨_,rfl⟩
    have hxk:=(HO.out.eq (x:=x) (by rw [hx];exact List.getElem_mem hml)).2.1
    obtain ⟨d,hd⟩:∃ d,d=rdc ts x:=⟨_,rfl⟩
    obtain ⟨y0,y1,y2,y3,y4,y5⟩:=rd_later HR.out.eqs hbw hgq2 hml d (by rw [hd,hx])
    have hdn:d.name=nameD ts x:=by rw [hd];exact (rdc_tok ts x).2
    have hdt:d.truth=(x.kind == 2):=by rw [hd];exact (rdc_truth ts hxk).1
    rw [List.drop_eq_getElem_cons hml,← hx,List.any_cons] at hrec
    obtain ⟨ee,qE⟩:∃ ee,(d.name.toList == a.word.toList)=ee:=⟨_,rfl⟩
    have eE:((nameD ts x).data.toList == lAt ts i)=ee:=by
     rw [← qE,← hdn,ByteArray.toList_eq,ByteArray.toList_eq,HWD.out];rfl
    rw [eE,← hdt] at hrec
    generalize d.truth=tr at hrec y3
    have HRC:=hide hrec
    have j3:(0:Int)≤(m:Int):=by omega
    have j4:(m:Int)<((eqL L).length:Int):=by omega
    clear hrec hdn hdt hd hx eE hxk
    have hc:ee=false∨(ee=true∧tr=false)∨(ee=true∧tr=true):=by cases ee <;> cases tr <;> simp
    rcases hc with rfl | ⟨rfl,rfl⟩ | ⟨rfl,rfl⟩
    ·have HR2:Hid (((eqL L).drop (m+1)).any (fun x=>(nameD ts x).data.toList == lAt ts i && x.kind == 2)=nameT ts L i):=hide (by rw [← HRC.out];simp)
     clear HRC
     go_wp2_with fail
     go_quiet (fail)
     go_wp2
     go_roundw
     case rel=>exact ⟨m+1,by omega,by go_num,by first | exact hbx | exact below_drewN hbx _,HR2.out⟩
     case measure=>simp [intOf];omega
    ·have HR2:Hid (((eqL L).drop (m+1)).any (fun x=>(nameD ts x).data.toList == lAt ts i && x.kind == 2)=nameT ts L i):=hide (by rw [← HRC.out];simp)
     clear HRC
     go_wp2_with fail
     go_quiet (fail)
     go_wp2
     go_roundw
     case rel=>exact ⟨m+1,by omega,by go_num,by first | exact hbx | exact below_drewN hbx _,HR2.out⟩
     case measure=>simp [intOf];omega
    ·have HR2:Hid (nameT ts L i=true):=hide (by rw [← HRC.out];simp)
     clear HRC
     go_wp2_with fail
     go_quiet (fail)
     go_wp2
     go_ret
     exact ⟨by rw [HIS.out,HR2.out];rfl,by first | exact hbw | exact below_drewN hbw _⟩
   ·have em:m=(eqL L).length:=by omega
    subst em
    rw [List.drop_length] at hrec
    have HR2:Hid (nameT ts L i=false):=hide (by rw [← hrec];rfl)
    have z1:¬ ((eqL L).length:Int)<((eqL L).length:Int):=by omega
    clear hrec
    go_wp2
    go_ret
    exact ⟨by rw [HIS.out,HR2.out];rfl,hbw⟩
 have q1:((a.c:Int) == 97)=false:=by rw [show (97:Int)=((97:Nat):Int) from rfl,beq_cast,hc1];exact beq_eq_false_iff_ne.2 hk1
 by_cases hk3:(tkAt ts i).kind=3
 ·have q2:((a.c:Int) == 110)=true:=by rw [show (110:Int)=((110:Nat):Int) from rfl,beq_cast,hc3,hk3];rfl
  have HIS:Hid (isR ts L i=110):=hide (by unfold isR;rw [if_neg hk1,if_pos hk3])
  clear ha hc1 hc3 hk40 hnear hk1 hk3
  go_enter Tryz.func98,Tryz.ntmps98
  go_wp2
  go_ret
  exact ⟨by rw [HIS.out];rfl,(Below.refl _ _).alloc (Nat.le_refl _) _⟩
 have q2:((a.c:Int) == 110)=false:=by rw [show (110:Int)=((110:Nat):Int) from rfl,beq_cast,hc3];exact beq_eq_false_iff_ne.2 hk3
 by_cases h40:a.l=[40]
 case neg=>
  have q3:=str_no (t:=a.word) h40
  have HIS:Hid (isR ts L i=116):=hide (by unfold isR;rw [if_neg hk1,if_neg hk3,if_pos (fun h=>h40 (hk40.2 h))])
  clear ha hc1 hc3 hk40 hnear hk1 hk3 h40
  go_enter Tryz.func98,Tryz.ntmps98
  go_wp2
  go_ret
  exact ⟨by rw [HIS.out];rfl,(Below.refl _ _).alloc (Nat.le_refl _) _⟩
 have q3:=str_yes (t:=a.word) h40
 have hIS0:isR ts L i=if lAt ts (i+1)=kNot then 116 else if lAt ts (i+1)=kIf then 63 else opR (lAt ts (behindF ts (i+1))):=isR_open HO.out.F (hk40.1 h40)
 obtain ⟨hi1,hbl⟩:=hnear (hk40.1 h40)
 obtain ⟨a1,ha1⟩:∃ a,a=rtok (tkAt ts (i+1)):=⟨_,rfl⟩
 have c0a:∀ o,(w.alloc o).cell? ⟨q,0,none⟩=some (.slice (some ⟨g,0,none⟩) ts.length cap):=fun o=>by rw [World.cell?_alloc_past _ _ _ HR.out.lt];exact HR.out.c0
 have w1:∀ o,(w.alloc o).cell? ⟨g,(i+1) * 4+1,none⟩=some (.string a1.word):=fun o=>by rw [World.cell?_alloc_past _ _ _ HR.out.toks.lt];exact (HR.out.toks.cells (Below.refl _ _) hi1 a1 ha1).2.1
 have hkn:=(HO.out.F (i+1)).kw kNot (by decide)
 have hki:=(HO.out.F (i+1)).kw kIf (by decide)
 rw [← ha1] at hkn hki
 have j3:(0:Int)≤(i:Int)+1:=by omega
 have j4:(i:Int)+1<(ts.length:Int):=by omega
 clear ha hc1 hc3 hk40 hnear hk1 hk3 h40 ha1
 by_cases hn:a1.l=kNot
 ·have q4:=str_yes (t:=a1.word) hn
  simp only [kNot] at q4
  have HIS:Hid (isR ts L i=116):=hide (by rw [hIS0,if_pos (hkn.1 hn)])
  clear hIS0 hkn hki hn hbl
  go_enter Tryz.func98,Tryz.ntmps98
  go_wp2
  go_ret
  exact ⟨by rw [HIS.out];rfl,by first | exact (Below.refl _ _).alloc (Nat.le_refl _) _ | exact below_drewN ((Below.refl _ _).alloc (Nat.le_refl _) _) _⟩
 have q4:=str_no (t:=a1.word) hn
 simp only [kNot] at q4
 by_cases hf:a1.l=kIf
 ·have q5:=str_yes (t:=a1.word) hf
  simp only [kIf] at q5
  have HIS:Hid (isR ts L i=63):=hide (by rw [hIS0,if_neg (fun h=>hn (hkn.2 h)),if_pos (hki.1 hf)])
  clear hIS0 hkn hki hn hbl hf
  go_enter Tryz.func98,Tryz.ntmps98
  go_wp2
  go_ret
  exact ⟨by rw [HIS.out];rfl,by first | exact (Below.refl _ _).alloc (Nat.le_refl _) _ | exact below_drewN ((Below.refl _ _).alloc (Nat.le_refl _) _) _⟩
 have q5:=str_no (t:=a1.word) hf
 simp only [kIf] at q5
 rw [if_neg (fun h=>hn (hkn.2 h)),if_neg (fun h=>hf (hki.2 h))] at hIS0
 have hb2:=hbl (fun h=>hn (hkn.2 h)) (fun h=>hf (hki.2 h))
 have r1:∀ o,(w.alloc o).cell? ⟨gE,i+1,none⟩=some (.int .i64 (behindF ts (i+1):Nat)):=fun o=>by rw [World.cell?_alloc_past _ _ _ hgE];exact end_later HR.out.ends (Below.refl _ _) hgE hi1
 have c1a:∀ o,(w.alloc o).cell? ⟨q,1,none⟩=some (.slice (some ⟨gE,0,none⟩) ts.length capE):=fun o=>by rw [World.cell?_alloc_past _ _ _ HR.out.lt];exact HR.out.c1
 generalize behindF ts (i+1)=b at hb2 r1 hIS0
 obtain ⟨a2,ha2⟩:∃ a,a=rtok (tkAt ts b):=⟨_,rfl⟩
 have w2:∀ o,(w.alloc o).cell? ⟨g,b * 4+1,none⟩=some (.string a2.word):=fun o=>by rw [World.cell?_alloc_past _ _ _ HR.out.toks.lt];exact (HR.out.toks.cells (Below.refl _ _) hb2 a2 ha2).2.1
 have j5:(0:Int)≤(b:Int):=by omega
 have j6:(b:Int)<(ts.length:Int):=by omega
 have kwb:∀ l,kwL.contains l=true→(a2.l=l↔lAt ts b=l):=fun l hl=>by rw [ha2];exact (HO.out.F b).kw l hl
 clear hkn hki hn hf hbl ha2
 by_cases u0:a2.l=kFby
 ·have q6:=str_yes (t:=a2.word) u0
  simp only [kFby] at q6
  have HIS:Hid (isR ts L i=63):=hide (by rw [hIS0,(kwb kFby (by decide)).1 u0];rfl)
  clear hIS0 kwb u0
  go_enter Tryz.func98,Tryz.ntmps98
  go_wp2_with fail
  go_quiet (fail)
  go_wp2
  go_ret
  exact ⟨by rw [HIS.out];rfl,by first | exact (Below.refl _ _).alloc (Nat.le_refl _) _ | exact below_drewN ((Below.refl _ _).alloc (Nat.le_refl _) _) _⟩
 have q6:=str_no (t:=a2.word) u0
 simp only [kFby] at q6
 by_cases u1:a2.l=[43]
 ·have q7:=str_yes (t:=a2.word) u1
  have HIS:Hid (isR ts L i=110):=hide (by rw [hIS0,(kwb [43] (by decide)).1 u1];rfl)
  clear hIS0 kwb u1 u0
  go_enter Tryz.func98,Tryz.ntmps98
  go_wp2_with fail
  go_quiet (fail)
  go_wp2
  go_ret
  exact ⟨by rw [HIS.out];rfl,by first | exact (Below.refl _ _).alloc (Nat.le_refl _) _ | exact below_drewN ((Below.refl _ _).alloc (Nat.le_refl _) _) _⟩
 have q7:=str_no (t:=a2.word) u1
 by_cases u2:a2.l=[45]
 ·have q8:=str_yes (t:=a2.word) u2
  have HIS:Hid (isR ts L i=110):=hide (by rw [hIS0,(kwb [45] (by decide)).1 u2];rfl)
  clear hIS0 kwb u2 u0 u1
  go_enter Tryz.func98,Tryz.ntmps98
  go_wp2_with fail
  go_quiet (fail)
  go_wp2
  go_ret
  exact ⟨by rw [HIS.out];rfl,by first | exact (Below.refl _ _).alloc (Nat.le_refl _) _ | exact below_drewN ((Below.refl _ _).alloc (Nat.le_refl _) _) _⟩
 have q8:=str_no (t:=a2.word) u2
 by_cases u3:a2.l=[42]
 ·have q9:=str_yes (t:=a2.word) u3
  have HIS:Hid (isR ts L i=110):=hide (by rw [hIS0,(kwb [42] (by decide)).1 u3];rfl)
  clear hIS0 kwb u3 u0 u1 u2
  go_enter Tryz.func98,Tryz.ntmps98
  go_wp2_with fail
  go_quiet (fail)
  go_wp2
  go_ret
  exact ⟨by rw [HIS.out];rfl,by first | exact (Below.refl _ _).alloc (Nat.le_refl _) _ | exact below_drewN ((Below.refl _ _).alloc (Nat.le_refl _) _) _⟩
 have q9:=str_no (t:=a2.word) u3
 by_cases u4:a2.l=[47]
 ·have q10:=str_yes (t:=a2.word) u4
  have HIS:Hid (isR ts L i=110):=hide (by rw [hIS0,(kwb [47] (by decide)).1 u4];rfl)
  clear hIS0 kwb u4 u0 u1 u2 u3
  go_enter Tryz.func98,Tryz.ntmps98
  go_wp2_with fail
  go_quiet (fail)
  go_wp2
  go_ret
  exact ⟨by rw [HIS.out];rfl,by first | exact (Below.refl _ _).alloc (Nat.le_refl _) _ | exact below_drewN ((Below.refl _ _).alloc (Nat.le_refl _) _) _⟩
 have q10:=str_no (t:=a2.word) u4
 have HIS:Hid (isR ts L i=116):=hide (by
  rw [hIS0];unfold opR
  rw [if_neg (fun h=>u0 ((kwb kFby (by decide)).2 h)),if_neg]
  rintro (h | h | h | h)
  ·exact u1 ((kwb [43] (by decide)).2 h)
  ·exact u2 ((kwb [45] (by decide)).2 h)
  ·exact u3 ((kwb [42] (by decide)).2 h)
  ·exact u4 ((kwb [47] (by decide)).2 h))
 clear hIS0 kwb u0 u1 u2 u3 u4
 go_enter Tryz.func98,Tryz.ntmps98
 go_wp2_with fail
 go_quiet (fail)
 go_wp2
 go_ret
 exact ⟨by rw [HIS.out];rfl,by first | exact (Below.refl _ _).alloc (Nat.le_refl _) _ | exact below_drewN ((Below.refl _ _).alloc (Nat.le_refl _) _) _⟩
structure Prt where
 t:Ast
 i:Nat
 w:Nat
def partsR (ts:List Tk):Ast→Nat→Nat→List Prt
 | .leaf,_,_=>[]
 | .neg a,i,_=>[⟨a,i+2,116⟩]
 | .ite a b c,i,w=>[⟨a,i+2,116⟩,⟨b,i+2+a.len,w⟩,⟨c,i+2+a.len+b.len,w⟩]
 | .dly b,i,w=>[⟨.leaf,i+1,w⟩,⟨b,i+3,w⟩]
 | .bin a b,i,_=>[⟨a,i+1,bothR (lAt ts (i+1+a.len))⟩,⟨b,i+2+a.len,bothR (lAt ts (i+1+a.len))⟩]
theorem wrongR_parts (ts:List Tk) (L:List Dl) (t:Ast) (i w:Nat):wrongR ts L t i w=if badR ts L i w then some (tkAt ts i).pos else (partsR ts t i w).findSome? fun p=>wrongR ts L p.t p.i p.w:=by
 have fs:∀ (l:List Prt) (p:Prt),(p :: l).findSome? (fun p=>wrongR ts L p.t p.i p.w)=(wrongR ts L p.t p.i p.w).or (l.findSome? fun p=>wrongR ts L p.t p.i p.w):=by
  intro l p
  rw [List.findSome?_cons]
  cases wrongR ts L p.t p.i p.w <;> rfl
 cases t with
 | leaf=>simp only [wrongR,partsR];rfl
 | neg a=>simp only [wrongR,partsR,fs,List.findSome?_nil,Option.or_none]
 | ite a b c=>simp only [wrongR,partsR,fs,List.findSome?_nil,Option.or_none]
 | dly b=>simp only [wrongR,partsR,fs,List.findSome?_nil,Option.or_none]
 | bin a b=>simp only [wrongR,partsR,fs,List.findSome?_nil,Option.or_none]
theorem parts_ok {ts:List Tk} (hF:∀ i,TkF (tkAt ts i)) {t:Ast}{i w:Nat} (hs:Sp ts t i) (hl:i+t.len<ts.length):∀ p∈partsR ts t i w,Sp ts p.t p.i∧p.i+p.t.len<ts.length∧p.t.size<t.size:=by
 cases t with
 | leaf=>intro p hp;simp [partsR] at hp
 | neg a=>
  intro p hp
  simp only [partsR,List.mem_singleton] at hp
  subst hp
  simp only [Ast.len] at hl
  exact ⟨hs.2.2.1,by show i+2+a.len<_;omega,by show a.size<_;simp only [Ast.size];omega⟩
 | ite a b c=>
  intro p hp
  simp only [partsR,List.mem_cons,List.not_mem_nil,or_false] at hp
  simp only [Ast.len] at hl
  simp only [Ast.size]
  rcases hp with rfl | rfl | rfl
  ·exact ⟨hs.2.2.1,by show i+2+a.len<_;omega,by show a.size<_;omega⟩
  ·exact ⟨hs.2.2.2.1,by show i+2+a.len+b.len<_;omega,by show b.size<_;omega⟩
  ·exact ⟨hs.2.2.2.2.1,by show i+2+a.len+b.len+c.len<_;omega,by show c.size<_;omega⟩
 | dly b=>
  intro p hp
  simp only [partsR,List.mem_cons,List.not_mem_nil,or_false] at hp
  simp only [Ast.len] at hl
  have hlf:leafT (tkAt ts (i+1))=true:=by unfold leafT;rw [hs.2.1];rfl
  have hb:=b.size_pos
  rcases hp with rfl | rfl
  ·exact ⟨⟨hlf,(leaf_ne2 hF hlf).2.2.1⟩,by show i+1+1<_;omega,by simp only [Ast.size];omega⟩
  ·exact ⟨hs.2.2.2.1,by show i+3+b.len<_;omega,by show b.size<_;simp only [Ast.size];omega⟩
 | bin a b=>
  intro p hp
  simp only [partsR,List.mem_cons,List.not_mem_nil,or_false] at hp
  simp only [Ast.len] at hl
  simp only [Ast.size]
  rcases hp with rfl | rfl
  ·exact ⟨hs.2.1,by show i+1+a.len<_;omega,by show a.size<_;omega⟩
  ·exact ⟨hs.2.2.2.1,by show i+2+a.len+b.len<_;omega,by show b.size<_;omega⟩
def wCells (l:List Nat):List Value:=l.map fun (n:Nat)=>Value.int .u8 (n:Int)
theorem two_rows (w:World) (A B:Array Value) (n:Nat) (hn:n≤3) (ha:A.size=n) (hb:B.size=n) :
  ((w.alloc (.cells A 3)).alloc (.cells B 5)).ownsRow w.heap.size 3 1 (.slice (some ⟨w.heap.size,0,none⟩) n n) n A.toList∧
  ((w.alloc (.cells A 3)).alloc (.cells B 5)).ownsRow w.heap.size 5 1 (.slice (some ⟨w.heap.size+1,0,none⟩) n n) n B.toList∧
  Below w.heap.size w ((w.alloc (.cells A 3)).alloc (.cells B 5)):=by
 refine ⟨(World.ownsRow_lit (base:=w.heap.size) w A n (Nat.le_refl _) (by unfold maxLen;omega) (by omega)).alloc _,?_,((Below.refl _ _).alloc (Nat.le_refl _) _).alloc (by simp) _⟩
 have:=World.ownsRow_lit (base:=w.heap.size) (e:=5) (size:=1) (w.alloc (.cells A 3)) B n (by simp) (by unfold maxLen;omega) (by omega)
 simpa using this
set_option maxHeartbeats 2000000 in
theorem rparts_any (w:World) (q g cap:Nat) (ts:List Tk) (L:List Dl) (vE vA vI vQ:Value) (h:RProg w q g cap ts L vE vA vI vQ) (ho:ROk ts L) (t:Ast) (i wt:Nat) (hs:Sp ts t i) (hl:i+t.len<ts.length) :
  Calls Tryz.prog 99 #[.pointer (some ⟨q,0,none⟩),.int .i64 (i:Int),.int .u8 (wt:Int)] w fun e w'=>∃ vl vw,e = .returned (.tuple #[vl,vw])∧w'.ownsRow w.heap.size 3 1 vl (partsR ts t i wt).length (pCells ((partsR ts t i wt).map Prt.i))∧w'.ownsRow w.heap.size 5 1 vw (partsR ts t i wt).length (wCells ((partsR ts t i wt).map Prt.w))∧Below w.heap.size w w':=by
 have hlen:=ho.len
 have hpos:=ho.pos
 have hF:=ho.F
 obtain ⟨gE,capE,rfl,_,hgE⟩:=h.ends.form (by omega)
 have hil:i<ts.length:=by omega
 obtain ⟨a,ha⟩:∃ a,a=rtok (tkAt ts i):=⟨_,rfl⟩
 have c0:=h.c0
 have c1:=h.c1
 have x1:=(h.toks.cells (Below.refl _ _) hil a ha).2.1
 have hk40:=(ho.F i).kw [40] (by decide)
 rw [← ha] at hk40
 have j1:(0:Int)≤(i:Int):=by omega
 have j2:(i:Int)<(ts.length:Int):=by omega
 have tok:∀ k,k<ts.length→w.cell? ⟨g,k * 4+1,none⟩=some (.string (rtok (tkAt ts k)).word):=fun k hk=>(h.toks.cells (Below.refl _ _) hk _ rfl).2.1
 have ends:∀ k,k<ts.length→w.cell? ⟨gE,k,none⟩=some (.int .i64 (behindF ts k:Nat)):=fun k hk=>end_later h.ends (Below.refl _ _) hgE hk
 have HTK:=hide tok
 have HEN:=hide ends
 have HFF:=hide hF
 clear tok ends ha h ho hF
 cases t with
 | leaf=>
  have h40:a.l≠[40]:=fun e=>hs.2 (hk40.1 e)
  have q1:=str_no (t:=a.word) h40
  clear h40 hk40 hs
  go_enter Tryz.func99,Tryz.ntmps99
  go_wp2
  go_ret2
  exact ⟨_,_,rfl,World.ownsRow_nil _ _ _ _,World.ownsRow_nil _ _ _ _,Below.refl _ _⟩
 | neg b=>
  obtain ⟨h1,h2,h3,h4⟩:=hs
  simp only [Ast.len] at hl
  have q1:=str_yes (t:=a.word) (hk40.2 h1)
  have w1:=HTK.out (i+1) (by omega)
  have q2:=str_yes (t:=(rtok (tkAt ts (i+1))).word) (((HFF.out (i+1)).kw kNot (by decide)).2 h2)
  simp only [kNot] at q2
  generalize rtok (tkAt ts (i+1))=a1 at w1 q2
  have j3:(0:Int)≤(i:Int)+1:=by omega
  have j4:(i:Int)+1<(ts.length:Int):=by omega
  clear hk40 h1 h2 h3 h4
  go_enter Tryz.func99,Tryz.ntmps99
  go_wp2
  go_ret2
  obtain ⟨o1,o2,o3⟩:=two_rows w #[.int .i64 ((i:Int)+2)] #[.int .u8 116] 1 (by omega) rfl rfl
  exact ⟨_,_,rfl,o1,o2,o3⟩
 | ite b c d=>
  obtain ⟨h1,h2,h3,h4,h5,h6⟩:=hs
  simp only [Ast.len] at hl
  have q1:=str_yes (t:=a.word) (hk40.2 h1)
  have w1:=HTK.out (i+1) (by omega)
  have q2:=str_yes (t:=(rtok (tkAt ts (i+1))).word) (((HFF.out (i+1)).kw kIf (by decide)).2 h2)
  simp only [kIf] at q2
  generalize rtok (tkAt ts (i+1))=a1 at w1 q2
  have r1:=HEN.out (i+2) (by omega)
  rw [behind_sp HFF.out b (i+2) h3 (by omega)] at r1
  have r2:=HEN.out (i+2+b.len) (by omega)
  rw [behind_sp HFF.out c (i+2+b.len) h4 (by omega)] at r2
  obtain ⟨m1,hm1⟩:∃ m,m=i+2+b.len:=⟨_,rfl⟩
  obtain ⟨m2,hm2⟩:∃ m,m=i+2+b.len+c.len:=⟨_,rfl⟩
  rw [← hm1] at r1
  rw [← hm2,← hm1] at r2
  have HM:=hide (And.intro hm1 hm2)
  have j3:(0:Int)≤(i:Int)+1:=by omega
  have j4:(i:Int)+1<(ts.length:Int):=by omega
  have j5:(0:Int)≤(i:Int)+2:=by omega
  have j6:(i:Int)+2<(ts.length:Int):=by omega
  have j7:(0:Int)≤(m1:Int):=by omega
  have j8:(m1:Int)<(ts.length:Int):=by omega
  clear hk40 h1 h2 h3 h4 h5 h6 hm1 hm2
  go_enter Tryz.func99,Tryz.ntmps99
  go_wp2
  go_ret2
  obtain ⟨o1,o2,o3⟩:=two_rows w #[.int .i64 ((i:Int)+2),.int .i64 (m1:Int),.int .i64 (m2:Int)] #[.int .u8 116,.int .u8 (wt:Int),.int .u8 (wt:Int)] 3 (by omega) rfl rfl
  have hc:pCells ((partsR ts (b.ite c d) i wt).map Prt.i)=[.int .i64 ((i:Int)+2),.int .i64 (m1:Int),.int .i64 (m2:Int)]:=by rw [HM.out.1,HM.out.2];rfl
  rw [hc]
  exact ⟨_,_,rfl,o1,o2,o3⟩
 | dly b=>
  obtain ⟨h1,h2,h3,h4,h5⟩:=hs
  simp only [Ast.len] at hl
  have hlf:leafT (tkAt ts (i+1))=true:=by unfold leafT;rw [h2];rfl
  obtain ⟨k1,k2,k3,_⟩:=leaf_ne2 HFF.out hlf
  have q1:=str_yes (t:=a.word) (hk40.2 h1)
  have w1:=HTK.out (i+1) (by omega)
  have q2:=str_no (t:=(rtok (tkAt ts (i+1))).word) (fun e=>k1 (((HFF.out (i+1)).kw kNot (by decide)).1 e))
  have q3:=str_no (t:=(rtok (tkAt ts (i+1))).word) (fun e=>k2 (((HFF.out (i+1)).kw kIf (by decide)).1 e))
  simp only [kNot] at q2
  simp only [kIf] at q3
  generalize rtok (tkAt ts (i+1))=a1 at w1 q2 q3
  have r1:=HEN.out (i+1) (by omega)
  rw [behind_sp HFF.out .leaf (i+1) ⟨hlf,k3⟩ (by simp only [Ast.len];omega)] at r1
  have w2:=HTK.out (i+2) (by omega)
  have q4:=str_yes (t:=(rtok (tkAt ts (i+2))).word) (((HFF.out (i+2)).kw kFby (by decide)).2 h3)
  simp only [kFby] at q4
  generalize rtok (tkAt ts (i+2))=a2 at w2 q4
  obtain ⟨m1,hm1⟩:∃ m,m=i+2:=⟨_,rfl⟩
  have e1:i+1+Ast.leaf.len=m1:=by rw [hm1];rfl
  rw [e1] at r1
  rw [← hm1] at w2
  have HM:=hide hm1
  have j3:(0:Int)≤(i:Int)+1:=by omega
  have j4:(i:Int)+1<(ts.length:Int):=by omega
  have j7:(0:Int)≤(m1:Int):=by omega
  have j8:(m1:Int)<(ts.length:Int):=by omega
  clear hk40 h1 h2 h3 h4 h5 hm1 k1 k2 k3 hlf e1
  go_enter Tryz.func99,Tryz.ntmps99
  go_wp2
  go_ret2
  obtain ⟨o1,o2,o3⟩:=two_rows w #[.int .i64 ((i:Int)+1),.int .i64 ((m1:Int)+1)] #[.int .u8 (wt:Int),.int .u8 (wt:Int)] 2 (by omega) rfl rfl
  have hc:pCells ((partsR ts b.dly i wt).map Prt.i)=[.int .i64 ((i:Int)+1),.int .i64 ((m1:Int)+1)]:=by rw [HM.out];rfl
  rw [hc]
  exact ⟨_,_,rfl,o1,o2,o3⟩
 | bin b c=>
  obtain ⟨h1,h2,h3,h4,h5⟩:=hs
  simp only [Ast.len] at hl
  obtain ⟨k1,k2⟩:=sp_first HFF.out h2
  have q1:=str_yes (t:=a.word) (hk40.2 h1)
  have w1:=HTK.out (i+1) (by omega)
  have q2:=str_no (t:=(rtok (tkAt ts (i+1))).word) (fun e=>k1 (((HFF.out (i+1)).kw kNot (by decide)).1 e))
  have q3:=str_no (t:=(rtok (tkAt ts (i+1))).word) (fun e=>k2 (((HFF.out (i+1)).kw kIf (by decide)).1 e))
  simp only [kNot] at q2
  simp only [kIf] at q3
  generalize rtok (tkAt ts (i+1))=a1 at w1 q2 q3
  have r1:=HEN.out (i+1) (by omega)
  rw [behind_sp HFF.out b (i+1) h2 (by omega)] at r1
  obtain ⟨m1,hm1⟩:∃ m,m=i+1+b.len:=⟨_,rfl⟩
  rw [← hm1] at r1 h3
  have w2:=HTK.out m1 (by omega)
  have kw2:∀ l,kwL.contains l=true→((rtok (tkAt ts m1)).l=l↔lAt ts m1=l):=fun l hl=>(HFF.out m1).kw l hl
  have q4:=str_no (t:=(rtok (tkAt ts m1)).word) (fun e=>(op_ne h3).2.2.2 ((kw2 kFby (by decide)).1 e))
  simp only [kFby] at q4
  have HBO:Hid (pCells ((partsR ts (b.bin c) i wt).map Prt.i)=[.int .i64 ((i:Int)+1),.int .i64 ((m1:Int)+1)]∧wCells ((partsR ts (b.bin c) i wt).map Prt.w)=[.int .u8 (bothR (lAt ts m1):Nat),.int .u8 (bothR (lAt ts m1):Nat)]):=hide (by
   refine ⟨?_,by rw [hm1];rfl⟩
   have e:i+2+b.len=m1+1:=by omega
   simp only [partsR,List.map_cons,List.map_nil,pCells,e]
   rfl)
  have j3:(0:Int)≤(i:Int)+1:=by omega
  have j4:(i:Int)+1<(ts.length:Int):=by omega
  have j7:(0:Int)≤(m1:Int):=by omega
  have j8:(m1:Int)<(ts.length:Int):=by omega
  by_cases u1:(rtok (tkAt ts m1)).l=[38]
  ·have q5:=str_yes (t:=(rtok (tkAt ts m1)).word) u1
   have HB:Hid (bothR (lAt ts m1)=116):=hide (by unfold bothR;rw [if_pos (.inl ((kw2 [38] (by decide)).1 u1))])
   generalize rtok (tkAt ts m1)=a2 at w2 q4 q5
   clear hk40 h1 h2 h3 h4 h5 hm1 k1 k2 kw2 u1
   go_enter Tryz.func99,Tryz.ntmps99
   go_wp2
   go_ret2
   obtain ⟨o1,o2,o3⟩:=two_rows w #[.int .i64 ((i:Int)+1),.int .i64 ((m1:Int)+1)] #[.int .u8 116,.int .u8 116] 2 (by omega) rfl rfl
   rw [HBO.out.1,HBO.out.2,HB.out]
   exact ⟨_,_,rfl,o1,o2,o3⟩
  have q5:=str_no (t:=(rtok (tkAt ts m1)).word) u1
  by_cases u2:(rtok (tkAt ts m1)).l=[124]
  ·have q6:=str_yes (t:=(rtok (tkAt ts m1)).word) u2
   have HB:Hid (bothR (lAt ts m1)=116):=hide (by unfold bothR;rw [if_pos (.inr ((kw2 [124] (by decide)).1 u2))])
   generalize rtok (tkAt ts m1)=a2 at w2 q4 q5 q6
   clear hk40 h1 h2 h3 h4 h5 hm1 k1 k2 kw2 u1 u2
   go_enter Tryz.func99,Tryz.ntmps99
   go_wp2
   go_ret2
   obtain ⟨o1,o2,o3⟩:=two_rows w #[.int .i64 ((i:Int)+1),.int .i64 ((m1:Int)+1)] #[.int .u8 116,.int .u8 116] 2 (by omega) rfl rfl
   rw [HBO.out.1,HBO.out.2,HB.out]
   exact ⟨_,_,rfl,o1,o2,o3⟩
  have q6:=str_no (t:=(rtok (tkAt ts m1)).word) u2
  have HB:Hid (bothR (lAt ts m1)=110):=hide (by
   unfold bothR;rw [if_neg]
   rintro (e | e)
   ·exact u1 ((kw2 [38] (by decide)).2 e)
   ·exact u2 ((kw2 [124] (by decide)).2 e))
  generalize rtok (tkAt ts m1)=a2 at w2 q4 q5 q6
  clear hk40 h1 h2 h3 h4 h5 hm1 k1 k2 kw2 u1 u2
  go_enter Tryz.func99,Tryz.ntmps99
  go_wp2
  go_ret2
  obtain ⟨o1,o2,o3⟩:=two_rows w #[.int .i64 ((i:Int)+1),.int .i64 ((m1:Int)+1)] #[.int .u8 110,.int .u8 110] 2 (by omega) rfl rfl
  rw [HBO.out.1,HBO.out.2,HB.out]
  exact ⟨_,_,rfl,o1,o2,o3⟩
end Go.Proofs.YtmndgoapkmhglabGreat
