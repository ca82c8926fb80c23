import Derived.Test.YtmndgoapkmhglaaGreatM26WrF
namespace Go.Proofs.YtmndgoapkmhglaaGreat
open Go.RowKit
attribute [local go_sem ↓] Go.wp_at_zero Go.wp_at_succ
structure Room (ts:List Tk) (s:WSt) (t:Ast) (i:Nat):Prop where
 ops:s.ops.length+t.len≤2000
 cells:s.cells.length+fbyT ts i t.len≤2000
 later:s.later.length+fbyT ts i t.len≤2000
theorem wx_room {E:WEnv}{t:Ast}{i dl o:Nat}{s:WSt} (hs:Sp E.ts t i):(wExpr E t i dl o s).1.ops.length≤s.ops.length+t.len∧(wExpr E t i dl o s).1.cells.length≤s.cells.length+fbyT E.ts i t.len∧(wExpr E t i dl o s).1.later.length≤s.later.length+fbyT E.ts i t.len:=by
 have h1:=wle_expr E t i dl o s hs
 obtain ⟨a,c,l,e⟩:=pre_expr E t i dl o s
 have h2:=h1.ops
 have h3:=h1.cells
 have h4:=h1.same
 have el:(wExpr E t i dl o s).1.later=s.later ++ l:=by rw [e]
 rw [el] at h2 h3 h4 ⊢
 rw [lw_app] at h2
 rw [lf_app] at h3
 omega
structure WPg (ts:List Tk) (ds:List Dc) (ns:List Nd) (lk:List Rt):Prop where
 F:∀ i,TkF (tkAt ts i)
 decl:∀ n∈ns,n.kind=2→0≤n.decl∧n.decl<(ds.length:Int)
 lk:lk.length≤1000
 nl:ns.length≤1501
theorem head_kind {ts:List Tk}{ds:List Dc}{b:Ast}{i dl o:Nat}{ns:List Nd} (h:AllAt (fun j n=>ns[j]? = some (bindF ds n)) o (flat ts b i dl o)):∃ g,ns[o]? = some g∧(b = .leaf→g=bindF ds (mkN ts i dl (leafN0 (tkAt ts i))))∧(b≠.leaf→g.kind≠2):=by
 cases b with
 | leaf=>exact ⟨_,h.1,fun _=>rfl,fun h=>absurd rfl h⟩
 | neg a=>exact ⟨_,h.1,(fun e=>by cases e),fun _=>by rw [(bindF_keep ds _).1,mkN_kind];simp⟩
 | ite a b c=>exact ⟨_,h.1,(fun e=>by cases e),fun _=>by rw [(bindF_keep ds _).1,mkN_kind];simp⟩
 | dly b=>exact ⟨_,h.1,(fun e=>by cases e),fun _=>by rw [(bindF_keep ds _).1,mkN_kind];simp⟩
 | bin a b=>exact ⟨_,h.1,(fun e=>by cases e),fun _=>by rw [(bindF_keep ds _).1,mkN_kind];simp⟩
theorem delay_expr {E:WEnv}{b:Ast}{i dl o:Nat}{s:WSt}{g:Nd} (h1:b = .leaf→g=leafB E (i+3) (dl+1)) (h2:b≠.leaf→g.kind≠2):wExpr E (.dly b) i dl o s=wDelay E s (leafB E (i+1) dl) g ⟨b,i+3,dl+1,o+2⟩:=by
 simp only [wExpr,wDelay]
 by_cases hb:b = .leaf
 ·subst hb
  have e:=h1 rfl
  subst e
  have:lateB E .leaf (i+3)=(wLink E (leafB E (i+3) (dl+1))).2:=by
   show (wLink E (leafB E (i+3) 0)).2=_
   rw [wLink_dl E (i+3) 0 (dl+1)]
  rw [this]
 ·have hk:=h2 hb
  have e1:lateB E b (i+3)=false:=by cases b <;> first | rfl | exact absurd rfl hb
  have e2:(wLink E g).2=false:=by unfold wLink;rw [if_pos (.inl hk)]
  rw [e1,e2];rfl
set_option maxHeartbeats 4000000 in
set_option maxRecDepth 100000 in
theorem wexpr_any (ts:List Tk) (ds:List Dc) (ns:List Nd) (lk:List Rt) (pl:Int) (hP:WPg ts ds ns lk):∀ (t:Ast) (i dl o:Nat),Sp ts t i→AllAt (fun j n=>ns[j]? = some (bindF ds n)) o (flat ts t i dl o)→
  ∀ (w:World) (X:Nat→Prop) (b:Nat) (m:WM),Wr w X b pl ds ns lk m→m.rs.length=ds.length→Room ts m.s t i→
  Calls Tryz.prog 49 #[.pointer (some ⟨b,0,none⟩),.int .i64 (o:Int)] w fun e w'=>
   e = .returned (.int .i64 ((wExpr (m.env ts ds pl lk) t i dl o m.s).2:Nat))∧Wr w' X b pl ds ns lk (m.st (wExpr (m.env ts ds pl lk) t i dl o m.s).1)∧Fr X w w':=by
 intro t
 -- what every case begins with
 have start:∀ (w:World) (X:Nat→Prop) (b:Nat) (m:WM) (o:Nat) (n:Nd),Wr w X b pl ds ns lk m→ns[o]? = some n→∃ (gn c1:Nat) (w1:World),w1=w.alloc (ndObj n)∧w.cell? ⟨b,1,none⟩=some (.slice (some ⟨gn,0,none⟩) ns.length c1)∧
   (w.cell? ⟨gn,o * 11,none⟩=some (.int .i64 (n.kind:Int))∧w.cell? ⟨gn,o * 11+1,none⟩=some (.int .i64 (n.pos:Int))∧w.cell? ⟨gn,o * 11+2,none⟩=some (.int .i64 (n.value:Int))∧w.cell? ⟨gn,o * 11+3,none⟩=some (.string n.name)∧
 w.cell? ⟨gn,o * 11+4,none⟩=some (.int .i64 n.decl)∧w.cell? ⟨gn,o * 11+5,none⟩=some (.int .i64 (n.op:Int))∧w.cell? ⟨gn,o * 11+6,none⟩=some (.int .i64 (n.a:Int))∧w.cell? ⟨gn,o * 11+7,none⟩=some (.int .i64 (n.b:Int))∧
 w.cell? ⟨gn,o * 11+8,none⟩=some (.int .i64 (n.c:Int))∧w.cell? ⟨gn,o * 11+9,none⟩=some (.bool n.delayed)∧w.cell? ⟨gn,o * 11+10,none⟩=some (.bool n.behind))∧
   Below w.heap.size w w1∧w1.heap.size=w.heap.size+1∧NdAt w1 w.heap.size n∧Wr w1 (Xn X w.heap.size (w.heap.size+1)) b pl ds ns lk m∧(∀ W,Fr (Xn X w.heap.size (w.heap.size+1)) w1 W→NdAt W w.heap.size n)∧(∀ k,X k→k<w.heap.size)∧o<ns.length:=by
  intro w X b m o n h hn
  have h0:=h
  obtain ⟨v,hv⟩:=h
  obtain ⟨hol,hoe⟩:=List.getElem?_eq_some_iff.1 hn
  obtain ⟨a1,c1,e1,hs1⟩:=own_shape (hv.rows 1)
  obtain ⟨gn,rfl,_,hgn⟩:=hs1 (by show 0<ns.length;omega)
  have e1':v 1 = .slice (some ⟨gn,0,none⟩) ns.length c1:=e1
  have hown1:w.ownsRow 0 126 11 (.slice (some ⟨gn,0,none⟩) ns.length c1) ns.length (ndCells ns):=by rw [← e1'];exact hv.rows 1
  have hb1:Below w.heap.size w (w.alloc (ndObj n)):=(Below.refl _ _).alloc (Nat.le_refl _) _
  have hs:(w.alloc (ndObj n)).heap.size=w.heap.size+1:=by simp
  have hk:(w.alloc (ndObj n)).heap[w.heap.size]? = some (ndObj n):=heap_alloc_new w _
  have hbx:=h0.box hb1
  rw [hs] at hbx
  exact ⟨gn,c1,_,rfl,by rw [← e1'];exact hv.cell.2.1,nd_later hown1 (Below.refl _ _) hgn hol n hoe.symm,hb1,hs,ndAt_of hk,hbx,fun W hW=>ndAt_of ((hW.block _ (.inr ⟨Nat.le_refl _,by omega⟩)).trans hk),hv.xlt,hol⟩
 induction t with
 | leaf=>
  intro i dl o hs hd w X b m h hrs hR
  obtain ⟨n,hn⟩:∃ n,n=leafB (m.env ts ds pl lk) i dl:=⟨_,rfl⟩
  have hno:ns[o]? = some n:=by rw [hn];exact hd.1
  have HE:Hid (wExpr (m.env ts ds pl lk) .leaf i dl o m.s=wLeaf (m.env ts ds pl lk) m.s n):=hide (by rw [hn];rfl)
  obtain ⟨gn,c1,w1,hw1,y1,⟨f0,f1,f2,f3,f4,f5,f6,f7,f8,f9,f10⟩,hb1,hs1,⟨x0,x1,x2,x3,x4,x5,x6,x7,x8,x9,x10⟩,hbx,_,hX,hol⟩:=start w X b m o n h hno
  have i1:(0:Int)≤(o:Int):=by omega
  have i2:(o:Int)<(ns.length:Int):=by omega
  have HB1:=hide hb1
  have HX:=hide hX
  have hR1:=hR.ops
  simp only [Ast.len] at hR1
  have hW1:=h.below hb1
  have HF1:=hide (h.frb hb1)
  have hkn:n.kind≤2:=by
   rw [hn];unfold leafB
   rw [(bindF_keep _ _).1,mkN_kind]
   unfold leafN0
   split;· simp
   split;· simp
   split;· simp
   ·simp
  by_cases hk:n.kind=2
  ·obtain ⟨d1,d2⟩:=hP.decl n (List.mem_of_getElem? hno) hk
   have HN:=hide (wname_any w1 X b pl ds ns lk m hW1 ts n d1 d2 hrs hP.lk (by omega))
   have HF:Hid (wLeaf (m.env ts ds pl lk) m.s n=wName (m.env ts ds pl lk) m.s n):=hide (if_pos hk)
   have q2:((n.kind:Int) == 2)=true:=by rw [hk];rfl
   clear hk hno hn d1 d2 hbx hb1 hs1 hX hW1 h hkn
   unfold ndObj at hw1
   go_enter Tryz.func49,Tryz.ntmps49
   go_wp2_with fail
   rw [← hw1]
   clear hw1
   go_wp2_with fail
   refine HN.out.mono ?_
   rintro e w2 ⟨rfl,hw2,hf2⟩
   go_wp2
   go_ret
   exact ⟨by rw [HE.out,HF.out];rfl,by rw [HE.out,HF.out];exact hw2,HF1.out.trans hf2⟩
  ·have HN:=hide (wconst_any w1 X b pl ds ns lk m hW1 n (by omega))
   have HF:Hid (wLeaf (m.env ts ds pl lk) m.s n=wAdd m.s ⟨0,(n.value:Nat),0,0⟩):=hide (if_neg hk)
   have no:∀ k:Nat,n.kind≠k→((n.kind:Int) == (k:Int))=false:=fun k h=>by rw [beq_eq_false_iff_ne];omega
   have q2:((n.kind:Int) == 2)=false:=no 2 hk
   have q3:((n.kind:Int) == 3)=false:=no 3 (by omega)
   have q4:((n.kind:Int) == 4)=false:=no 4 (by omega)
   have q5:((n.kind:Int) == 5)=false:=no 5 (by omega)
   have q6:((n.kind:Int) == 6)=false:=no 6 (by omega)
   clear hk hno hn hbx hb1 hs1 hX hW1 h hkn no
   unfold ndObj at hw1
   go_enter Tryz.func49,Tryz.ntmps49
   go_wp2_with fail
   rw [← hw1]
   clear hw1
   go_wp2_with fail
   refine HN.out.mono ?_
   rintro e w2 ⟨rfl,hw2,hf2⟩
   go_wp2
   go_ret
   exact ⟨by rw [HE.out,HF.out];rfl,by rw [HE.out,HF.out];exact hw2,HF1.out.trans hf2⟩
 | neg a iha=>
  intro i dl o hs hd w X b m h hrs hR
  obtain ⟨_,_,sa,_⟩:=hs
  obtain ⟨n,hn⟩:∃ n,n=bindF ds (mkN ts i dl { ndZero with kind:=3,a:=o+1 }):=⟨_,rfl⟩
  have hno:ns[o]? = some n:=by rw [hn];exact hd.1
  obtain ⟨k0,k1,k2,k3⟩:=bindF_keep ds (mkN ts i dl { ndZero with kind:=3,a:=o+1 })
  rw [← hn] at k0 k1 k2 k3
  have ka:n.a=o+1:=k1
  have q3:((n.kind:Int) == 3)=true:=by rw [show n.kind=3 from k0];rfl
  have q2:((n.kind:Int) == 2)=false:=by rw [show n.kind=3 from k0];rfl
  have HE:Hid (wExpr (m.env ts ds pl lk) (.neg a) i dl o m.s=wAdd (wExpr (m.env ts ds pl lk) a (i+2) dl n.a m.s).1 ⟨13,((wExpr (m.env ts ds pl lk) a (i+2) dl n.a m.s).2:Nat),0,0⟩):=hide (by rw [ka];rfl)
  obtain ⟨gn,c1,w1,hw1,y1,⟨f0,f1,f2,f3,f4,f5,f6,f7,f8,f9,f10⟩,hb1,hs1,⟨x0,x1,x2,x3,x4,x5,x6,x7,x8,x9,x10⟩,hbx,hnd,hX,hol⟩:=start w X b m o n h hno
  have i1:(0:Int)≤(o:Int):=by omega
  have i2:(o:Int)<(ns.length:Int):=by omega
  have HF1:=hide (h.frb hb1)
  have r1:=hR.ops
  have r2:=hR.cells
  have r3:=hR.later
  simp only [Ast.len] at r1 r2 r3
  rw [show a.len+3=2+(a.len+1) by omega,fbyT_add,fbyT_add] at r2 r3
  have HIH:=hide (iha (i+2) dl (o+1) sa hd.2 w1 _ b m hbx hrs ⟨by omega,by omega,by omega⟩)
  have hro:=(wx_room (E:=m.env ts ds pl lk) (dl:=dl) (o:=n.a) (s:=m.s) sa).1
  rw [← ka] at HIH
  have HAD:=hide (fun W (hW:Wr W (Xn X w.heap.size (w.heap.size+1)) b pl ds ns lk (m.st (wExpr (m.env ts ds pl lk) a (i+2) dl n.a m.s).1))=>wadd_any W _ b pl ds ns lk _ hW ⟨13,((wExpr (m.env ts ds pl lk) a (i+2) dl n.a m.s).2:Nat),0,0⟩ (by show (wExpr (m.env ts ds pl lk) a (i+2) dl n.a m.s).1.ops.length≤3000;omega))
  clear hno hn k0 k1 k2 k3 ka hbx hb1 hs1 hX h hnd r1 r2 r3 hro
  unfold ndObj at hw1
  go_enter Tryz.func49,Tryz.ntmps49
  go_wp2_with fail
  rw [← hw1]
  clear hw1
  go_wp2_with fail
  refine HIH.out.mono ?_
  rintro e w2 ⟨rfl,hw2,hf2⟩
  have HW2:=hide hw2
  have HF2:=hide hf2
  clear hw2 hf2 x0 x1 x2 x3 x4 x5 x6 x7 x8 x9 x10 HIH
  go_wp2_with fail
  refine (HAD.out _ HW2.out).mono ?_
  rintro e w3 ⟨rfl,hw3,hf3⟩
  go_wp2
  go_ret
  exact ⟨by rw [HE.out];rfl,by rw [HE.out];exact hw3.less (fun _ hk=>.inl hk),HF1.out.trans (HF2.out.trans hf3).xn⟩
 | ite a b' c' iha ihb ihc=>
  intro i dl o hs hd w X b m h hrs hR
  obtain ⟨_,_,sa,sb,sc,_⟩:=hs
  obtain ⟨n,hn⟩:∃ n,n=bindF ds (mkN ts i dl { ndZero with kind:=4,a:=o+1,b:=o+1+a.size,c:=o+1+a.size+b'.size }):=⟨_,rfl⟩
  have hno:ns[o]? = some n:=by rw [hn];exact hd.1
  have hnb:n=mkN ts i dl { ndZero with kind:=4,a:=o+1,b:=o+1+a.size,c:=o+1+a.size+b'.size }:=by rw [hn];exact bind_other (by rw [mkN_kind];simp)
  have k0:n.kind=4:=by rw [hnb];rfl
  have ka:n.a=o+1:=by rw [hnb];rfl
  have kb:n.b=o+1+a.size:=by rw [hnb];rfl
  have kc:n.c=o+1+a.size+b'.size:=by rw [hnb];rfl
  have q4:((n.kind:Int) == 4)=true:=by rw [k0];rfl
  have q3:((n.kind:Int) == 3)=false:=by rw [k0];rfl
  have q2:((n.kind:Int) == 2)=false:=by rw [k0];rfl
  obtain ⟨hd0,hd⟩:=hd
  rw [allAt_app,allAt_app,flat_len,flat_len] at hd
  obtain ⟨da,db,dc⟩:=hd
  obtain ⟨x,hx⟩:∃ x,x=wExpr (m.env ts ds pl lk) a (i+2) dl (o+1) m.s:=⟨_,rfl⟩
  obtain ⟨y,hy⟩:∃ y,y=wExpr (m.env ts ds pl lk) b' (i+2+a.len) dl (o+1+a.size) x.1:=⟨_,rfl⟩
  obtain ⟨z,hz⟩:∃ z,z=wExpr (m.env ts ds pl lk) c' (i+2+a.len+b'.len) dl (o+1+a.size+b'.size) y.1:=⟨_,rfl⟩
  have HE:Hid (wExpr (m.env ts ds pl lk) (.ite a b' c') i dl o m.s=wAdd z.1 ⟨14,(x.2:Nat),(y.2:Nat),(z.2:Nat)⟩):=hide (by rw [hz,hy,hx];rfl)
  obtain ⟨gn,c1,w1,hw1,y1,⟨f0,f1,f2,f3,f4,f5,f6,f7,f8,f9,f10⟩,hb1,hs1,⟨x0,x1,x2,x3,x4,x5,x6,x7,x8,x9,x10⟩,hbx,hnd,hX,hol⟩:=start w X b m o n h hno
  have i1:(0:Int)≤(o:Int):=by omega
  have i2:(o:Int)<(ns.length:Int):=by omega
  have HF1:=hide (h.frb hb1)
  have r1:=hR.ops
  have r2:=hR.cells
  have r3:=hR.later
  simp only [Ast.len] at r1 r2 r3
  rw [show a.len+b'.len+c'.len+3=2+(a.len+(b'.len+(c'.len+1))) by omega,fbyT_add,fbyT_add,fbyT_add,fbyT_add] at r2 r3
  have HIA:=hide (iha (i+2) dl (o+1) sa da w1 _ b m hbx hrs ⟨by omega,by omega,by omega⟩)
  have hro:=wx_room (E:=m.env ts ds pl lk) (dl:=dl) (o:=o+1) (s:=m.s) sa
  rw [← hx] at HIA hro
  have HIB:=hide (fun W (hW:Wr W (Xn X w.heap.size (w.heap.size+1)) b pl ds ns lk (m.st x.1))=>ihb (i+2+a.len) dl (o+1+a.size) sb db W _ b (m.st x.1) hW hrs ⟨by have:=hro.1;show x.1.ops.length+b'.len≤2000;omega,by have:=hro.2.1;show x.1.cells.length+_≤2000;simp only [WM.env] at this;omega,by have:=hro.2.2;show x.1.later.length+_≤2000;simp only [WM.env] at this;omega⟩)
  have hro2:=wx_room (E:=m.env ts ds pl lk) (dl:=dl) (o:=o+1+a.size) (s:=x.1) sb
  rw [← hy] at hro2
  have e2:wExpr ((m.st x.1).env ts ds pl lk) b' (i+2+a.len) dl (o+1+a.size) (m.st x.1).s=y:=hy.symm
  rw [e2] at HIB
  have HIC:=hide (fun W (hW:Wr W (Xn X w.heap.size (w.heap.size+1)) b pl ds ns lk ((m.st x.1).st y.1))=>ihc (i+2+a.len+b'.len) dl (o+1+a.size+b'.size) sc dc W _ b ((m.st x.1).st y.1) hW hrs ⟨by have:=hro.1;have:=hro2.1;show y.1.ops.length+c'.len≤2000;omega,by have:=hro.2.1;have:=hro2.2.1;show y.1.cells.length+_≤2000;simp only [WM.env] at *;omega,by have:=hro.2.2;have:=hro2.2.2;show y.1.later.length+_≤2000;simp only [WM.env] at *;omega⟩)
  have hro3:=(wx_room (E:=m.env ts ds pl lk) (dl:=dl) (o:=o+1+a.size+b'.size) (s:=y.1) sc).1
  rw [← hz] at hro3
  have e3:wExpr (((m.st x.1).st y.1).env ts ds pl lk) c' (i+2+a.len+b'.len) dl (o+1+a.size+b'.size) ((m.st x.1).st y.1).s=z:=hz.symm
  rw [e3] at HIC
  rw [← ka] at HIA
  rw [← kb] at HIB
  rw [← kc] at HIC
  have HAD:=hide (fun W (hW:Wr W (Xn X w.heap.size (w.heap.size+1)) b pl ds ns lk (((m.st x.1).st y.1).st z.1))=>wadd_any W _ b pl ds ns lk _ hW ⟨14,(x.2:Nat),(y.2:Nat),(z.2:Nat)⟩ (by show z.1.ops.length≤3000;have:=hro.1;have:=hro2.1;omega))
  have HND:=hide hnd
  clear hno hn hnb k0 ka kb kc hbx hb1 hs1 hX h hnd r1 r2 r3 hro hro2 hro3 e2 e3 hx hy hz hd0
  unfold ndObj at hw1
  go_enter Tryz.func49,Tryz.ntmps49
  go_wp2_with fail
  rw [← hw1]
  clear hw1
  go_wp2_with fail
  refine HIA.out.mono ?_
  rintro e w2 ⟨rfl,hw2,hf2⟩
  clear x0 x1 x2 x3 x4 x5 x6 x7 x8 x9 x10
  obtain ⟨x0,x1,x2,x3,x4,x5,x6,x7,x8,x9,x10⟩:=HND.out w2 hf2
  have HW2:=hide hw2
  have HF2:=hide hf2
  clear hw2 hf2 HIA
  go_wp2_with fail
  refine (HIB.out _ HW2.out).mono ?_
  rintro e w3 ⟨rfl,hw3,hf3⟩
  clear x0 x1 x2 x3 x4 x5 x6 x7 x8 x9 x10
  have HF3:=hide (HF2.out.trans hf3)
  obtain ⟨x0,x1,x2,x3,x4,x5,x6,x7,x8,x9,x10⟩:=HND.out w3 HF3.out
  have HW3:=hide hw3
  clear hw3 hf3 HIB HW2 HF2
  go_wp2_with fail
  refine (HIC.out _ HW3.out).mono ?_
  rintro e w4 ⟨rfl,hw4,hf4⟩
  clear x0 x1 x2 x3 x4 x5 x6 x7 x8 x9 x10
  have HF4:=hide (HF3.out.trans hf4)
  have HW4:=hide hw4
  clear hw4 hf4 HIC HW3 HF3
  go_wp2_with fail
  refine (HAD.out _ HW4.out).mono ?_
  rintro e w5 ⟨rfl,hw5,hf5⟩
  go_wp2
  go_ret
  exact ⟨by rw [HE.out];rfl,by rw [HE.out];exact hw5.less (fun _ hk=>.inl hk),HF1.out.trans (HF4.out.trans hf5).xn⟩
 | dly b' ihb=>
  intro i dl o hs hd w X b m h hrs hR
  obtain ⟨n,hn⟩:∃ n,n=bindF ds (mkN ts i dl { ndZero with kind:=5,a:=o+1,b:=o+2 }):=⟨_,rfl⟩
  have hno:ns[o]? = some n:=by rw [hn];exact hd.1
  have hnb:n=mkN ts i dl { ndZero with kind:=5,a:=o+1,b:=o+2 }:=by rw [hn];exact bind_other (by rw [mkN_kind];simp)
  have k0:n.kind=5:=by rw [hnb];rfl
  have ka:n.a=o+1:=by rw [hnb];rfl
  have kb:n.b=o+2:=by rw [hnb];rfl
  have q5:((n.kind:Int) == 5)=true:=by rw [k0];rfl
  have q4:((n.kind:Int) == 4)=false:=by rw [k0];rfl
  have q3:((n.kind:Int) == 3)=false:=by rw [k0];rfl
  have q2:((n.kind:Int) == 2)=false:=by rw [k0];rfl
  obtain ⟨g,hg1,hg2,hg3⟩:=head_kind hd.2.2
  have HE:Hid (wExpr (m.env ts ds pl lk) (.dly b') i dl o m.s=wDelay (m.env ts ds pl lk) m.s (leafB (m.env ts ds pl lk) (i+1) dl) g ⟨b',i+3,dl+1,o+2⟩):=hide (delay_expr hg2 hg3)
  obtain ⟨gn,c1,w1,hw1,y1,⟨f0,f1,f2,f3,f4,f5,f6,f7,f8,f9,f10⟩,hb1,hs1,⟨x0,x1,x2,x3,x4,x5,x6,x7,x8,x9,x10⟩,hbx,hnd,hX,hol⟩:=start w X b m o n h hno
  have i1:(0:Int)≤(o:Int):=by omega
  have i2:(o:Int)<(ns.length:Int):=by omega
  have HF1:=hide (h.frb hb1)
  have r1:=hR.ops
  have r2:=hR.cells
  have r3:=hR.later
  have HD:=hide (wdelay_any w1 X b pl ds ns lk m (h.below hb1) ts n (leafB (m.env ts ds pl lk) (i+1) dl) g ⟨b',i+3,dl+1,o+2⟩ kb.symm (by rw [ka];exact hd.2.1) (by rw [kb];exact hg1) (hP.decl g (List.mem_of_getElem? hg1)) hrs hP.lk (by omega) (by omega) (by omega))
  clear hno hn hnb k0 ka kb hbx hb1 hs1 hX h hnd r1 r2 r3 hg1 hg2 hg3
  unfold ndObj at hw1
  go_enter Tryz.func49,Tryz.ntmps49
  go_wp2_with fail
  rw [← hw1]
  clear hw1
  go_wp2_with fail
  refine HD.out.mono ?_
  rintro e w2 ⟨rfl,hw2,hf2⟩
  go_wp2
  go_ret
  exact ⟨by rw [HE.out];rfl,by rw [HE.out];exact hw2,HF1.out.trans hf2⟩
 | bin a b' iha ihb=>
  intro i dl o hs hd w X b m h hrs hR
  obtain ⟨_,sa,so,sb,_⟩:=hs
  obtain ⟨n,hn⟩:∃ n,n=bindF ds (mkN ts i dl { ndZero with kind:=6,op:=(opOf (lAt ts (i+1+a.len))).getD 0,a:=o+1,b:=o+1+a.size }):=⟨_,rfl⟩
  have hno:ns[o]? = some n:=by rw [hn];exact hd.1
  have hnb:n=mkN ts i dl { ndZero with kind:=6,op:=(opOf (lAt ts (i+1+a.len))).getD 0,a:=o+1,b:=o+1+a.size }:=by rw [hn];exact bind_other (by rw [mkN_kind];simp)
  have k0:n.kind=6:=by rw [hnb];rfl
  have ka:n.a=o+1:=by rw [hnb];rfl
  have kb:n.b=o+1+a.size:=by rw [hnb];rfl
  have kop:n.op=(opOf (lAt ts (i+1+a.len))).getD 0:=by rw [hnb];rfl
  have q6:((n.kind:Int) == 6)=true:=by rw [k0];rfl
  have q5:((n.kind:Int) == 5)=false:=by rw [k0];rfl
  have q4:((n.kind:Int) == 4)=false:=by rw [k0];rfl
  have q3:((n.kind:Int) == 3)=false:=by rw [k0];rfl
  have q2:((n.kind:Int) == 2)=false:=by rw [k0];rfl
  obtain ⟨hd0,hd⟩:=hd
  rw [allAt_app,flat_len] at hd
  obtain ⟨da,db⟩:=hd
  obtain ⟨x,hx⟩:∃ x,x=wExpr (m.env ts ds pl lk) a (i+1) dl (o+1) m.s:=⟨_,rfl⟩
  obtain ⟨y,hy⟩:∃ y,y=wExpr (m.env ts ds pl lk) b' (i+2+a.len) dl (o+1+a.size) x.1:=⟨_,rfl⟩
  have HE:Hid (wExpr (m.env ts ds pl lk) (.bin a b') i dl o m.s=wAdd y.1 ⟨(n.op:Nat),(x.2:Nat),(y.2:Nat),0⟩):=hide (by rw [kop,hy,hx];rfl)
  obtain ⟨gn,c1,w1,hw1,y1,⟨f0,f1,f2,f3,f4,f5,f6,f7,f8,f9,f10⟩,hb1,hs1,⟨x0,x1,x2,x3,x4,x5,x6,x7,x8,x9,x10⟩,hbx,hnd,hX,hol⟩:=start w X b m o n h hno
  have i1:(0:Int)≤(o:Int):=by omega
  have i2:(o:Int)<(ns.length:Int):=by omega
  have HF1:=hide (h.frb hb1)
  have r1:=hR.ops
  have r2:=hR.cells
  have r3:=hR.later
  simp only [Ast.len] at r1 r2 r3
  rw [show a.len+b'.len+3=1+(a.len+(1+(b'.len+1))) by omega,fbyT_add,fbyT_add,fbyT_add,fbyT_add,show i+1+a.len+1=i+2+a.len by omega] at r2 r3
  have HIA:=hide (iha (i+1) dl (o+1) sa da w1 _ b m hbx hrs ⟨by omega,by omega,by omega⟩)
  have hro:=wx_room (E:=m.env ts ds pl lk) (dl:=dl) (o:=o+1) (s:=m.s) sa
  rw [← hx] at HIA hro
  have HIB:=hide (fun W (hW:Wr W (Xn X w.heap.size (w.heap.size+1)) b pl ds ns lk (m.st x.1))=>ihb (i+2+a.len) dl (o+1+a.size) sb db W _ b (m.st x.1) hW hrs ⟨by have:=hro.1;show x.1.ops.length+b'.len≤2000;omega,by have:=hro.2.1;show x.1.cells.length+_≤2000;simp only [WM.env] at this;omega,by have:=hro.2.2;show x.1.later.length+_≤2000;simp only [WM.env] at this;omega⟩)
  have hro2:=(wx_room (E:=m.env ts ds pl lk) (dl:=dl) (o:=o+1+a.size) (s:=x.1) sb).1
  rw [← hy] at hro2
  have e2:wExpr ((m.st x.1).env ts ds pl lk) b' (i+2+a.len) dl (o+1+a.size) (m.st x.1).s=y:=hy.symm
  rw [e2] at HIB
  rw [← ka] at HIA
  rw [← kb] at HIB
  have HAD:=hide (fun W (hW:Wr W (Xn X w.heap.size (w.heap.size+1)) b pl ds ns lk ((m.st x.1).st y.1))=>wadd_any W _ b pl ds ns lk _ hW ⟨(n.op:Nat),(x.2:Nat),(y.2:Nat),0⟩ (by show y.1.ops.length≤3000;have:=hro.1;omega))
  have HND:=hide hnd
  clear hno hn hnb k0 ka kb kop hbx hb1 hs1 hX h hnd r1 r2 r3 hro hro2 e2 hx hy hd0
  unfold ndObj at hw1
  go_enter Tryz.func49,Tryz.ntmps49
  go_wp2_with fail
  rw [← hw1]
  clear hw1
  go_wp2_with fail
  refine HIA.out.mono ?_
  rintro e w2 ⟨rfl,hw2,hf2⟩
  clear x0 x1 x2 x3 x4 x5 x6 x7 x8 x9 x10
  obtain ⟨x0,x1,x2,x3,x4,x5,x6,x7,x8,x9,x10⟩:=HND.out w2 hf2
  have HW2:=hide hw2
  have HF2:=hide hf2
  clear hw2 hf2 HIA
  go_wp2_with fail
  refine (HIB.out _ HW2.out).mono ?_
  rintro e w3 ⟨rfl,hw3,hf3⟩
  clear x0 x1 x2 x3 x4 x5 x6 x7 x8 x9 x10
  have HF3:=hide (HF2.out.trans hf3)
  obtain ⟨x0,x1,x2,x3,x4,x5,x6,x7,x8,x9,x10⟩:=HND.out w3 HF3.out
  have HW3:=hide hw3
  clear hw3 hf3 HIB HW2 HF2
  go_wp2_with fail
  refine (HAD.out _ HW3.out).mono ?_
  rintro e w4 ⟨rfl,hw4,hf4⟩
  go_wp2
  go_ret
  exact ⟨by rw [HE.out];rfl,by rw [HE.out];exact hw4.less (fun _ hk=>.inl hk),HF1.out.trans (HF3.out.trans hf4).xn⟩
end Go.Proofs.YtmndgoapkmhglaaGreat
