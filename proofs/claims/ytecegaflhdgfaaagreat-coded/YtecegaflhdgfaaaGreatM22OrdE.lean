import Derived.Test.YtecegaflhdgfaaaGreatM18JudL
import Derived.Test.YtecegaflhdgfaaaGreatM19IntC
import Derived.Test.YtecegaflhdgfaaaGreatM21WrF
namespace Go.Proofs.YtecegaflhdgfaaaGreat
open Go.RowKit
attribute [local go_sem ↓] Go.wp_at_zero Go.wp_at_succ
structure Room (ts:List Tk) (s:WSt) (t:Ast) (i:Nat):Prop where
 ops:s.ops.length+t.len≤2000
 cells:s.cells.length+fbyT ts i t.len≤2000
 later:s.later.length+fbyT ts i t.len≤2000
theorem wx_room {E:WEnv}{t:Ast}{i dl o:Nat}{s:WSt} (hs:Sp E.ts t i):(wExpr E t i dl o s).1.ops.length≤s.ops.length+t.len∧(wExpr E t i dl o s).1.cells.length≤s.cells.length+fbyT E.ts i t.len∧(wExpr E t i dl o s).1.later.length≤s.later.length+fbyT E.ts i t.len:=by
 have h1:=wle_expr E t i dl o s hs
 obtain ⟨a,c,l,e⟩:=pre_expr E t i dl o s
 have h2:=h1.ops
 have h3:=h1.cells
 have h4:=h1.same
 have el:(wExpr E t i dl o s).1.later=s.later ++ l:=by rw [e]
 rw [el] at h2 h3 h4 ⊢
 rw [lw_app] at h2
 rw [lf_app] at h3
 omega
structure WPg (ts:List Tk) (ds:List Dc) (ns:List Nd) (lk:List Rt):Prop where
 F:∀ i,TkF (tkAt ts i)
 decl:∀ n∈ns,n.kind=2→0≤n.decl∧n.decl<(ds.length:Int)
 lk:lk.length≤1000
 nl:ns.length≤1501
theorem head_kind {ts:List Tk}{ds:List Dc}{b:Ast}{i dl o:Nat}{ns:List Nd} (h:AllAt (fun j n=>ns[j]? = some (bindF ds n)) o (flat ts b i dl o)):∃ g,ns[o]? = some g∧(b = .leaf→g=bindF ds (mkN ts i dl (leafN0 (tkAt ts i))))∧(b≠.leaf→g.kind≠2):=by
 cases b with
 | leaf=>exact ⟨_,h.1,fun _=>rfl,fun h=>absurd rfl h⟩
 | neg a=>exact ⟨_,h.1,(fun e=>by cases e),fun _=>by rw [(bindF_keep ds _).1,mkN_kind];simp⟩
 | ite a b c=>exact ⟨_,h.1,(fun e=>by cases e),fun _=>by rw [(bindF_keep ds _).1,mkN_kind];simp⟩
 | dly b=>exact ⟨_,h.1,(fun e=>by cases e),fun _=>by rw [(bindF_keep ds _).1,mkN_kind];simp⟩
 | bin a b=>exact ⟨_,h.1,(fun e=>by cases e),fun _=>by rw [(bindF_keep ds _).1,mkN_kind];simp⟩
theorem delay_expr {E:WEnv}{b:Ast}{i dl o:Nat}{s:WSt}{g:Nd} (h1:b = .leaf→g=leafB E (i+3) (dl+1)) (h2:b≠.leaf→g.kind≠2):wExpr E (.dly b) i dl o s=wDelay E s (leafB E (i+1) dl) g ⟨b,i+3,dl+1,o+2⟩:=by
 simp only [wExpr,wDelay]
 by_cases hb:b = .leaf
 ·subst hb
  have e:=h1 rfl
  subst e
  have:lateB E .leaf (i+3)=(wLink E (leafB E (i+3) (dl+1))).2:=by
   show (wLink E (leafB E (i+3) 0)).2=_
   rw [wLink_dl E (i+3) 0 (dl+1)]
  rw [this]
 ·have hk:=h2 hb
  have e1:lateB E b (i+3)=false:=by cases b <;> first | rfl | exact absurd rfl hb
  have e2:(wLink E g).2=false:=by unfold wLink;rw [if_pos (.inl hk)]
  rw [e1,e2];rfl
set_option maxHeartbeats 4000000 in
set_option maxRecDepth 100000 in
theorem wexpr_any (ts:List Tk) (ds:List Dc) (ns:List Nd) (lk:List Rt) (pl:Int) (hP:WPg ts ds ns lk):∀ (t:Ast) (i dl o:Nat),Sp ts t i→AllAt (fun j n=>ns[j]? = some (bindF ds n)) o (flat ts t i dl o)→
  ∀ (w:World) (X:Nat→Prop) (b:Nat) (m:WM),Wr w X b pl ds ns lk m→m.rs.length=ds.length→Room ts m.s t i→
  Calls Tryz.prog 49 #[.pointer (some ⟨b,0,none⟩),.int .i64 (o:Int)] w fun e w'=>
   e = .returned (.int .i64 ((wExpr (m.env ts ds pl lk) t i dl o m.s).2:Nat))∧Wr w' X b pl ds ns lk (m.st (wExpr (m.env ts ds pl lk) t i dl o m.s).1)∧Fr X w w':=by
 intro t
 -- what every case begins with
 have start:∀ (w:World) (X:Nat→Prop) (b:Nat) (m:WM) (o:Nat) (n:Nd),Wr w X b pl ds ns lk m→ns[o]? = some n→∃ (gn c1:Nat) (w1:World),w1=w.alloc (ndObj n)∧w.cell? ⟨b,1,none⟩=some (.slice (some ⟨gn,0,none⟩) ns.length c1)∧
   (w.cell? ⟨gn,o * 11,none⟩=some (.int .i64 (n.kind:Int))∧w.cell? ⟨gn,o * 11+1,none⟩=some (.int .i64 (n.pos:Int))∧w.cell? ⟨gn,o * 11+2,none⟩=some (.int .i64 (n.value:Int))∧w.cell? ⟨gn,o * 11+3,none⟩=some (.string n.name)∧
 w.cell? ⟨gn,o * 11+4,none⟩=some (.int .i64 n.decl)∧w.cell? ⟨gn,o * 11+5,none⟩=some (.int .i64 (n.op:Int))∧w.cell? ⟨gn,o * 11+6,none⟩=some (.int .i64 (n.a:Int))∧w.cell? ⟨gn,o * 11+7,none⟩=some (.int .i64 (n.b:Int))∧
 w.cell? ⟨gn,o * 11+8,none⟩=some (.int .i64 (n.c:Int))∧w.cell? ⟨gn,o * 11+9,none⟩=some (.bool n.delayed)∧w.cell? ⟨gn,o * 11+10,none⟩=some (.bool n.behind))∧
   Below w.heap.size w w1∧w1.heap.size=w.heap.size+1∧NdAt w1 w.heap.size n∧Wr w1 (Xn X w.heap.size (w.heap.size+1)) b pl ds ns lk m∧(∀ W,Fr (Xn X w.heap.size (w.heap.size+1)) w1 W→NdAt W w.heap.size n)∧(∀ k,X k→k<w.heap.size)∧o<ns.length:=by
  intro w X b m o n h hn
  have h0:=h
  obtain ⟨v,hv⟩:=h
  obtain ⟨hol,hoe⟩:=List.getElem?_eq_some_iff.1 hn
  obtain ⟨a1,c1,e1,hs1⟩:=own_shape (hv.rows 1)
  obtain ⟨gn,rfl,_,hgn⟩:=hs1 (by show 0<ns.length;omega)
  have e1':v 1 = .slice (some ⟨gn,0,none⟩) ns.length c1:=e1
  have hown1:w.ownsRow 0 126 11 (.slice (some ⟨gn,0,none⟩) ns.length c1) ns.length (ndCells ns):=by rw [← e1'];exact hv.rows 1
  have hb1:Below w.heap.size w (w.alloc (ndObj n)):=(Below.refl _ _).alloc (Nat.le_refl _) _
  have hs:(w.alloc (ndObj n)).heap.size=w.heap.size+1:=by simp
  have hk:(w.alloc (ndObj n)).heap[w.heap.size]? = some (ndObj n):=heap_alloc_new w _
  have hbx:=h0.box hb1
  rw [hs] at hbx
  exact ⟨gn,c1,_,rfl,by rw [← e1'];exact hv.cell.2.1,nd_later hown1 (Below.refl _ _) hgn hol n hoe.symm,hb1,hs,ndAt_of hk,hbx,fun W hW=>ndAt_of ((hW.block _ (.inr ⟨Nat.le_refl _,by omega⟩)).trans hk),hv.xlt,hol⟩
 induction t with
 | leaf=>
  intro i dl o hs hd w X b m h hrs hR
  obtain ⟨n,hn⟩:∃ n,n=leafB (m.env ts ds pl lk) i dl:=⟨_,rfl⟩
  have hno:ns[o]? = some n:=by rw [hn];exact hd.1
  have HE:Hid (wExpr (m.env ts ds pl lk) .leaf i dl o m.s=wLeaf (m.env ts ds pl lk) m.s n):=hide (by rw [hn];rfl)
  obtain ⟨gn,c1,w1,hw1,y1,⟨f0,f1,f2,f3,f4,f5,f6,f7,f8,f9,f10⟩,hb1,hs1,⟨x0,x1,x2,x3,x4,x5,x6,x7,x8,x9,x10⟩,hbx,_,hX,hol⟩:=start w X b m o n h hno
  have i1:(0:Int)≤(o:Int):=by omega
  have i2:(o:Int)<(ns.length:Int):=by omega
  have HB1:=hide hb1
  have HX:=hide hX
  have hR1:=hR.ops
  simp only [Ast.len] at hR1
  have hW1:=h.below hb1
  have HF1:=hide (h.frb hb1)
  have hkn:n.kind≤2:=by
   rw [hn];unfold leafB
   rw [(bindF_keep _ _).1,mkN_kind]
   unfold leafN0
   split;· simp
   split;· simp
   split;· simp
   ·simp
  by_cases hk:n.kind=2
  ·obtain ⟨d1,d2⟩:=hP.decl n (List.mem_of_getElem? hno) hk
   have HN:=hide (wname_any w1 X b pl ds ns lk m hW1 ts n d1 d2 hrs hP.lk (by omega))
   have HF:Hid (wLeaf (m.env ts ds pl lk) m.s n=wName (m.env ts ds pl lk) m.s n):=hide (if_pos hk)
   have q2:((n.kind:Int) == 2)=true:=by rw [hk];rfl
   clear hk hno hn d1 d2 hbx hb1 hs1 hX hW1 h hkn
   unfold ndObj at hw1
   go_enter Tryz.func49,Tryz.ntmps49
   go_wp2_with fail
   rw [← hw1]
   clear hw1
   go_wp2_with fail
   refine HN.out.mono ?_
   rintro e w2 ⟨rfl,hw2,hf2⟩
   go_wp2
   go_ret
   exact ⟨by rw [HE.out,HF.out];rfl,by rw [HE.out,HF.out];exact hw2,HF1.out.trans hf2⟩
  ·have HN:=hide (wconst_any w1 X b pl ds ns lk m hW1 n (by omega))
   have HF:Hid (wLeaf (m.env ts ds pl lk) m.s n=wAdd m.s ⟨0,(n.value:Nat),0,0⟩):=hide (if_neg hk)
   have no:∀ k:Nat,n.kind≠k→((n.kind:Int) == (k:Int))=false:=fun k h=>by rw [beq_eq_false_iff_ne];omega
   have q2:((n.kind:Int) == 2)=false:=no 2 hk
   have q3:((n.kind:Int) == 3)=false:=no 3 (by omega)
   have q4:((n.kind:Int) == 4)=false:=no 4 (by omega)
   have q5:((n.kind:Int) == 5)=false:=no 5 (by omega)
   have q6:((n.kind:Int) == 6)=false:=no 6 (by omega)
   clear hk hno hn hbx hb1 hs1 hX hW1 h hkn no
   unfold ndObj at hw1
   go_enter Tryz.func49,Tryz.ntmps49
   go_wp2_with fail
   rw [← hw1]
   clear hw1
   go_wp2_with fail
   refine HN.out.mono ?_
   rintro e w2 ⟨rfl,hw2,hf2⟩
   go_wp2
   go_ret
   exact ⟨by rw [HE.out,HF.out];rfl,by rw [HE.out,HF.out];exact hw2,HF1.out.trans hf2⟩
 | neg a iha=>
  intro i dl o hs hd w X b m h hrs hR
  obtain ⟨_,_,sa,_⟩:=hs
  obtain ⟨n,hn⟩:∃ n,n=bindF ds (mkN ts i dl { ndZero with kind:=3,a:=o+1 }):=⟨_,rfl⟩
  have hno:ns[o]? = some n:=by rw [hn];exact hd.1
  obtain ⟨k0,k1,k2,k3⟩:=bindF_keep ds (mkN ts i dl { ndZero with kind:=3,a:=o+1 })
  rw [← hn] at k0 k1 k2 k3
  have ka:n.a=o+1:=k1
  have q3:((n.kind:Int) == 3)=true:=by rw [show n.kind=3 from k0];rfl
  have q2:((n.kind:Int) == 2)=false:=by rw [show n.kind=3 from k0];rfl
  have HE:Hid (wExpr (m.env ts ds pl lk) (.neg a) i dl o m.s=wAdd (wExpr (m.env ts ds pl lk) a (i+2) dl n.a m.s).1 ⟨13,((wExpr (m.env ts ds pl lk) a (i+2) dl n.a m.s).2:Nat),0,0⟩):=hide (by rw [ka];rfl)
  obtain ⟨gn,c1,w1,hw1,y1,⟨f0,f1,f2,f3,f4,f5,f6,f7,f8,f9,f10⟩,hb1,hs1,⟨x0,x1,x2,x3,x4,x5,x6,x7,x8,x9,x10⟩,hbx,hnd,hX,hol⟩:=start w X b m o n h hno
  have i1:(0:Int)≤(o:Int):=by omega
  have i2:(o:Int)<(ns.length:Int):=by omega
  have HF1:=hide (h.frb hb1)
  have r1:=hR.ops
  have r2:=hR.cells
  have r3:=hR.later
  simp only [Ast.len] at r1 r2 r3
  rw [show a.len+3=2+(a.len+1) by omega,fbyT_add,fbyT_add] at r2 r3
  have HIH:=hide (iha (i+2) dl (o+1) sa hd.2 w1 _ b m hbx hrs ⟨by omega,by omega,by omega⟩)
  have hro:=(wx_room (E:=m.env ts ds pl lk) (dl:=dl) (o:=n.a) (s:=m.s) sa).1
  rw [← ka] at HIH
  have HAD:=hide (fun W (hW:Wr W (Xn X w.heap.size (w.heap.size+1)) b pl ds ns lk (m.st (wExpr (m.env ts ds pl lk) a (i+2) dl n.a m.s).1))=>wadd_any W _ b pl ds ns lk _ hW ⟨13,((wExpr (m.env ts ds pl lk) a (i+2) dl n.a m.s).2:Nat),0,0⟩ (by show (wExpr (m.env ts ds pl lk) a (i+2) dl n.a m.s).1.ops.length≤3000;omega))
  clear hno hn k0 k1 k2 k3 ka hbx hb1 hs1 hX h hnd r1 r2 r3 hro
  unfold ndObj at hw1
  go_enter Tryz.func49,Tryz.ntmps49
  go_wp2_with fail
  rw [← hw1]
  clear hw1
  go_wp2_with fail
  refine HIH.out.mono ?_
  rintro e w2 ⟨rfl,hw2,hf2⟩
  have HW2:=hide hw2
  have HF2:=hide hf2
  clear hw2 hf2 x0 x1 x2 x3 x4 x5 x6 x7 x8 x9 x10 HIH
  go_wp2_with fail
  refine (HAD.out _ HW2.out).mono ?_
  rintro e w3 ⟨rfl,hw3,hf3⟩
  go_wp2
  go_ret
  exact ⟨by rw [HE.out];rfl,by rw [HE.out];exact hw3.less (fun _ hk=>.inl hk),HF1.out.trans (HF2.out.trans hf3).xn⟩
 | ite a b' c' iha ihb ihc=>
  intro i dl o hs hd w X b m h hrs hR
  obtain ⟨_,_,sa,sb,sc,_⟩:=hs
  obtain ⟨n,hn⟩:∃ n,n=bindF ds (mkN ts i dl { ndZero with kind:=4,a:=o+1,b:=o+1+a.size,c:=o+1+a.size+b'.size }):=⟨_,rfl⟩
  have hno:ns[o]? = some n:=by rw [hn];exact hd.1
  have hnb:n=mkN ts i dl { ndZero with kind:=4,a:=o+1,b:=o+1+a.size,c:=o+1+a.size+b'.size }:=by rw [hn];exact bind_other (by rw [mkN_kind];simp)
  have k0:n.kind=4:=by rw [hnb];rfl
  have ka:n.a=o+1:=by rw [hnb];rfl
  have kb:n.b=o+1+a.size:=by rw [hnb];rfl
  have kc:n.c=o+1+a.size+b'.size:=by rw [hnb];rfl
  have q4:((n.kind:Int) == 4)=true:=by rw [k0];rfl
  have q3:((n.kind:Int) == 3)=false:=by rw [k0];rfl
  have q2:((n.kind:Int) == 2)=false:=by rw [k0];rfl
  obtain ⟨hd0,hd⟩:=hd
  rw [allAt_app,allAt_app,flat_len,flat_len] at hd
  obtain ⟨da,db,dc⟩:=hd
  obtain ⟨x,hx⟩:∃ x,x=wExpr (m.env ts ds pl lk) a (i+2) dl (o+1) m.s:=⟨_,rfl⟩
  obtain ⟨y,hy⟩:∃ y,y=wExpr (m.env ts ds pl lk) b' (i+2+a.len) dl (o+1+a.size) x.1:=⟨_,rfl⟩
  obtain ⟨z,hz⟩:∃ z,z=wExpr (m.env ts ds pl lk) c' (i+2+a.len+b'.len) dl (o+1+a.size+b'.size) y.1:=⟨_,rfl⟩
  have HE:Hid (wExpr (m.env ts ds pl lk) (.ite a b' c') i dl o m.s=wAdd z.1 ⟨14,(x.2:Nat),(y.2:Nat),(z.2:Nat)⟩):=hide (by rw [hz,hy,hx];rfl)
  obtain ⟨gn,c1,w1,hw1,y1,⟨f0,f1,f2,f3,f4,f5,f6,f7,f8,f9,f10⟩,hb1,hs1,⟨x0,x1,x2,x3,x4,x5,x6,x7,x8,x9,x10⟩,hbx,hnd,hX,hol⟩:=start w X b m o n h hno
  have i1:(0:Int)≤(o:Int):=by omega
  have i2:(o:Int)<(ns.length:Int):=by omega
  have HF1:=hide (h.frb hb1)
  have r1:=hR.ops
  have r2:=hR.cells
  have r3:=hR.later
  simp only [Ast.len] at r1 r2 r3
  rw [show a.len+b'.len+c'.len+3=2+(a.len+(b'.len+(c'.len+1))) by omega,fbyT_add,fbyT_add,fbyT_add,fbyT_add] at r2 r3
  have HIA:=hide (iha (i+2) dl (o+1) sa da w1 _ b m hbx hrs ⟨by omega,by omega,by omega⟩)
  have hro:=wx_room (E:=m.env ts ds pl lk) (dl:=dl) (o:=o+1) (s:=m.s) sa
  rw [← hx] at HIA hro
  have HIB:=hide (fun W (hW:Wr W (Xn X w.heap.size (w.heap.size+1)) b pl ds ns lk (m.st x.1))=>ihb (i+2+a.len) dl (o+1+a.size) sb db W _ b (m.st x.1) hW hrs ⟨by have:=hro.1;show x.1.ops.length+b'.len≤2000;omega,by have:=hro.2.1;show x.1.cells.length+_≤2000;simp only [WM.env] at this;omega,by have:=hro.2.2;show x.1.later.length+_≤2000;simp only [WM.env] at this;omega⟩)
  have hro2:=wx_room (E:=m.env ts ds pl lk) (dl:=dl) (o:=o+1+a.size) (s:=x.1) sb
  rw [← hy] at hro2
  have e2:wExpr ((m.st x.1).env ts ds pl lk) b' (i+2+a.len) dl (o+1+a.size) (m.st x.1).s=y:=hy.symm
  rw [e2] at HIB
  have HIC:=hide (fun W (hW:Wr W (Xn X w.heap.size (w.heap.size+1)) b pl ds ns lk ((m.st x.1).st y.1))=>ihc (i+2+a.len+b'.len) dl (o+1+a.size+b'.size) sc dc W _ b ((m.st x.1).st y.1) hW hrs ⟨by have:=hro.1;have:=hro2.1;show y.1.ops.length+c'.len≤2000;omega,by have:=hro.2.1;have:=hro2.2.1;show y.1.cells.length+_≤2000;simp only [WM.env] at *;omega,by have:=hro.2.2;have:=hro2.2.2;show y.1.later.length+_≤2000;simp only [WM.env] at *;omega⟩)
  have hro3:=(wx_room (E:=m.env ts ds pl lk) (dl:=dl) (o:=o+1+a.size+b'.size) (s:=y.1) sc).1
  rw [← hz] at hro3
  have e3:wExpr (((m.st x.1).st y.1).env ts ds pl lk) c' (i+2+a.len+b'.len) dl (o+1+a.size+b'.size) ((m.st x.1).st y.1).s=z:=hz.symm
  rw [e3] at HIC
  rw [← ka] at HIA
  rw [← kb] at HIB
  rw [← kc] at HIC
  have HAD:=hide (fun W (hW:Wr W (Xn X w.heap.size (w.heap.size+1)) b pl ds ns lk (((m.st x.1).st y.1).st z.1))=>wadd_any W _ b pl ds ns lk _ hW ⟨14,(x.2:Nat),(y.2:Nat),(z.2:Nat)⟩ (by show z.1.ops.length≤3000;have:=hro.1;have:=hro2.1;omega))
  have HND:=hide hnd
  clear hno hn hnb k0 ka kb kc hbx hb1 hs1 hX h hnd r1 r2 r3 hro hro2 hro3 e2 e3 hx hy hz hd0
  unfold ndObj at hw1
  go_enter Tryz.func49,Tryz.ntmps49
  go_wp2_with fail
  rw [← hw1]
  clear hw1
  go_wp2_with fail
  refine HIA.out.mono ?_
  rintro e w2 ⟨rfl,hw2,hf2⟩
  clear x0 x1 x2 x3 x4 x5 x6 x7 x8 x9 x10
  obtain ⟨x0,x1,x2,x3,x4,x5,x6,x7,x8,x9,x10⟩:=HND.out w2 hf2
  have HW2:=hide hw2
  have HF2:=hide hf2
  clear hw2 hf2 HIA
  go_wp2_with fail
  refine (HIB.out _ HW2.out).mono ?_
  rintro e w3 ⟨rfl,hw3,hf3⟩
  clear x0 x1 x2 x3 x4 x5 x6 x7 x8 x9 x10
  have HF3:=hide (HF2.out.trans hf3)
  obtain ⟨x0,x1,x2,x3,x4,x5,x6,x7,x8,x9,x10⟩:=HND.out w3 HF3.out
  have HW3:=hide hw3
  clear hw3 hf3 HIB HW2 HF2
  go_wp2_with fail
  refine (HIC.out _ HW3.out).mono ?_
  rintro e w4 ⟨rfl,hw4,hf4⟩
  clear x0 x1 x2 x3 x4 x5 x6 x7 x8 x9 x10
  have HF4:=hide (HF3.out.trans hf4)
  have HW4:=hide hw4
  clear hw4 hf4 HIC HW3 HF3
  go_wp2_with fail
  refine (HAD.out _ HW4.out).mono ?_
  rintro e w5 ⟨rfl,hw5,hf5⟩
  go_wp2
  go_ret
  exact ⟨by rw [HE.out];rfl,by rw [HE.out];exact hw5.less (fun _ hk=>.inl hk),HF1.out.trans (HF4.out.trans hf5).xn⟩
 | dly b' ihb=>
  intro i dl o hs hd w X b m h hrs hR
  obtain ⟨n,hn⟩:∃ n,n=bindF ds (mkN ts i dl { ndZero with kind:=5,a:=o+1,b:=o+2 }):=⟨_,rfl⟩
  have hno:ns[o]? = some n:=by rw [hn];exact hd.1
  have hnb:n=mkN ts i dl { ndZero with kind:=5,a:=o+1,b:=o+2 }:=by rw [hn];exact bind_other (by rw [mkN_kind];simp)
  have k0:n.kind=5:=by rw [hnb];rfl
  have ka:n.a=o+1:=by rw [hnb];rfl
  have kb:n.b=o+2:=by rw [hnb];rfl
  have q5:((n.kind:Int) == 5)=true:=by rw [k0];rfl
  have q4:((n.kind:Int) == 4)=false:=by rw [k0];rfl
  have q3:((n.kind:Int) == 3)=false:=by rw [k0];rfl
  have q2:((n.kind:Int) == 2)=false:=by rw [k0];rfl
  obtain ⟨g,hg1,hg2,hg3⟩:=head_kind hd.2.2
  have HE:Hid (wExpr (m.env ts ds pl lk) (.dly b') i dl o m.s=wDelay (m.env ts ds pl lk) m.s (leafB (m.env ts ds pl lk) (i+1) dl) g ⟨b',i+3,dl+1,o+2⟩):=hide (delay_expr hg2 hg3)
  obtain ⟨gn,c1,w1,hw1,y1,⟨f0,f1,f2,f3,f4,f5,f6,f7,f8,f9,f10⟩,hb1,hs1,⟨x0,x1,x2,x3,x4,x5,x6,x7,x8,x9,x10⟩,hbx,hnd,hX,hol⟩:=start w X b m o n h hno
  have i1:(0:Int)≤(o:Int):=by omega
  have i2:(o:Int)<(ns.length:Int):=by omega
  have HF1:=hide (h.frb hb1)
  have r1:=hR.ops
  have r2:=hR.cells
  have r3:=hR.later
  have HD:=hide (wdelay_any w1 X b pl ds ns lk m (h.below hb1) ts n (leafB (m.env ts ds pl lk) (i+1) dl) g ⟨b',i+3,dl+1,o+2⟩ kb.symm (by rw [ka];exact hd.2.1) (by rw [kb];exact hg1) (hP.decl g (List.mem_of_getElem? hg1)) hrs hP.lk (by omega) (by omega) (by omega))
  clear hno hn hnb k0 ka kb hbx hb1 hs1 hX h hnd r1 r2 r3 hg1 hg2 hg3
  unfold ndObj at hw1
  go_enter Tryz.func49,Tryz.ntmps49
  go_wp2_with fail
  rw [← hw1]
  clear hw1
  go_wp2_with fail
  refine HD.out.mono ?_
  rintro e w2 ⟨rfl,hw2,hf2⟩
  go_wp2
  go_ret
  exact ⟨by rw [HE.out];rfl,by rw [HE.out];exact hw2,HF1.out.trans hf2⟩
 | bin a b' iha ihb=>
  intro i dl o hs hd w X b m h hrs hR
  obtain ⟨_,sa,so,sb,_⟩:=hs
  obtain ⟨n,hn⟩:∃ n,n=bindF ds (mkN ts i dl { ndZero with kind:=6,op:=(opOf (lAt ts (i+1+a.len))).getD 0,a:=o+1,b:=o+1+a.size }):=⟨_,rfl⟩
  have hno:ns[o]? = some n:=by rw [hn];exact hd.1
  have hnb:n=mkN ts i dl { ndZero with kind:=6,op:=(opOf (lAt ts (i+1+a.len))).getD 0,a:=o+1,b:=o+1+a.size }:=by rw [hn];exact bind_other (by rw [mkN_kind];simp)
  have k0:n.kind=6:=by rw [hnb];rfl
  have ka:n.a=o+1:=by rw [hnb];rfl
  have kb:n.b=o+1+a.size:=by rw [hnb];rfl
  have kop:n.op=(opOf (lAt ts (i+1+a.len))).getD 0:=by rw [hnb];rfl
  have q6:((n.kind:Int) == 6)=true:=by rw [k0];rfl
  have q5:((n.kind:Int) == 5)=false:=by rw [k0];rfl
  have q4:((n.kind:Int) == 4)=false:=by rw [k0];rfl
  have q3:((n.kind:Int) == 3)=false:=by rw [k0];rfl
  have q2:((n.kind:Int) == 2)=false:=by rw [k0];rfl
  obtain ⟨hd0,hd⟩:=hd
  rw [allAt_app,flat_len] at hd
  obtain ⟨da,db⟩:=hd
  obtain ⟨x,hx⟩:∃ x,x=wExpr (m.env ts ds pl lk) a (i+1) dl (o+1) m.s:=⟨_,rfl⟩
  obtain ⟨y,hy⟩:∃ y,y=wExpr (m.env ts ds pl lk) b' (i+2+a.len) dl (o+1+a.size) x.1:=⟨_,rfl⟩
  have HE:Hid (wExpr (m.env ts ds pl lk) (.bin a b') i dl o m.s=wAdd y.1 ⟨(n.op:Nat),(x.2:Nat),(y.2:Nat),0⟩):=hide (by rw [kop,hy,hx];rfl)
  obtain ⟨gn,c1,w1,hw1,y1,⟨f0,f1,f2,f3,f4,f5,f6,f7,f8,f9,f10⟩,hb1,hs1,⟨x0,x1,x2,x3,x4,x5,x6,x7,x8,x9,x10⟩,hbx,hnd,hX,hol⟩:=start w X b m o n h hno
  have i1:(0:Int)≤(o:Int):=by omega
  have i2:(o:Int)<(ns.length:Int):=by omega
  have HF1:=hide (h.frb hb1)
  have r1:=hR.ops
  have r2:=hR.cells
  have r3:=hR.later
  simp only [Ast.len] at r1 r2 r3
  rw [show a.len+b'.len+3=1+(a.len+(1+(b'.len+1))) by omega,fbyT_add,fbyT_add,fbyT_add,fbyT_add,show i+1+a.len+1=i+2+a.len by omega] at r2 r3
  have HIA:=hide (iha (i+1) dl (o+1) sa da w1 _ b m hbx hrs ⟨by omega,by omega,by omega⟩)
  have hro:=wx_room (E:=m.env ts ds pl lk) (dl:=dl) (o:=o+1) (s:=m.s) sa
  rw [← hx] at HIA hro
  have HIB:=hide (fun W (hW:Wr W (Xn X w.heap.size (w.heap.size+1)) b pl ds ns lk (m.st x.1))=>ihb (i+2+a.len) dl (o+1+a.size) sb db W _ b (m.st x.1) hW hrs ⟨by have:=hro.1;show x.1.ops.length+b'.len≤2000;omega,by have:=hro.2.1;show x.1.cells.length+_≤2000;simp only [WM.env] at this;omega,by have:=hro.2.2;show x.1.later.length+_≤2000;simp only [WM.env] at this;omega⟩)
  have hro2:=(wx_room (E:=m.env ts ds pl lk) (dl:=dl) (o:=o+1+a.size) (s:=x.1) sb).1
  rw [← hy] at hro2
  have e2:wExpr ((m.st x.1).env ts ds pl lk) b' (i+2+a.len) dl (o+1+a.size) (m.st x.1).s=y:=hy.symm
  rw [e2] at HIB
  rw [← ka] at HIA
  rw [← kb] at HIB
  have HAD:=hide (fun W (hW:Wr W (Xn X w.heap.size (w.heap.size+1)) b pl ds ns lk ((m.st x.1).st y.1))=>wadd_any W _ b pl ds ns lk _ hW ⟨(n.op:Nat),(x.2:Nat),(y.2:Nat),0⟩ (by show y.1.ops.length≤3000;have:=hro.1;omega))
  have HND:=hide hnd
  clear hno hn hnb k0 ka kb kop hbx hb1 hs1 hX h hnd r1 r2 r3 hro hro2 e2 hx hy hd0
  unfold ndObj at hw1
  go_enter Tryz.func49,Tryz.ntmps49
  go_wp2_with fail
  rw [← hw1]
  clear hw1
  go_wp2_with fail
  refine HIA.out.mono ?_
  rintro e w2 ⟨rfl,hw2,hf2⟩
  clear x0 x1 x2 x3 x4 x5 x6 x7 x8 x9 x10
  obtain ⟨x0,x1,x2,x3,x4,x5,x6,x7,x8,x9,x10⟩:=HND.out w2 hf2
  have HW2:=hide hw2
  have HF2:=hide hf2
  clear hw2 hf2 HIA
  go_wp2_with fail
  refine (HIB.out _ HW2.out).mono ?_
  rintro e w3 ⟨rfl,hw3,hf3⟩
  clear x0 x1 x2 x3 x4 x5 x6 x7 x8 x9 x10
  have HF3:=hide (HF2.out.trans hf3)
  obtain ⟨x0,x1,x2,x3,x4,x5,x6,x7,x8,x9,x10⟩:=HND.out w3 HF3.out
  have HW3:=hide hw3
  clear hw3 hf3 HIB HW2 HF2
  go_wp2_with fail
  refine (HAD.out _ HW3.out).mono ?_
  rintro e w4 ⟨rfl,hw4,hf4⟩
  go_wp2
  go_ret
  exact ⟨by rw [HE.out];rfl,by rw [HE.out];exact hw4.less (fun _ hk=>.inl hk),HF1.out.trans (HF3.out.trans hf4).xn⟩
theorem toPl_snoc (pl:Int) (l:List Rt) (r:Rt):toPl pl (l ++ [r])=toPl pl l ++ (if ((r.dst:Nat):Int)=pl then [r] else []):=by
 unfold toPl
 rw [List.filter_append,List.filter_cons]
 by_cases h:((r.dst:Nat):Int)=pl
 ·rw [if_pos h,if_pos (by simp [h])];rfl
 ·rw [if_neg h,if_neg (by simp [h])];rfl
theorem rtCells_snocW (l:List Rt) (r:Rt):rtCells (l ++ [r])=rtCells l ++ [.int .i64 (r.src:Int),.int .i64 (r.dst:Int),.bool r.late]:=by simp [rtCells,Rt.cells]
set_option maxHeartbeats 2000000 in
set_option maxRecDepth 100000 in
theorem arriving_any (w:World) (q:Nat) (ds:List Dc) (ns:List Nd) (vd vn:Value) (h:ProgAt w q ds ns vd vn) (hwf:ProgWf ds ns) (pl:Int) (hll:(linksF ds ns).length≤1000) :
  Calls Tryz.prog 48 #[.pointer (some ⟨q,0,none⟩),.int .i64 pl] w fun e w'=>∃ v,e = .returned v∧w'.ownsRow w.heap.size 111 3 v (toPl pl (linksF ds ns)).length (rtCells (toPl pl (linksF ds ns)))∧Below w.heap.size w w':=by
 obtain ⟨i0,hi0,hz0,hz1,hz2⟩:=info_parts Tryz.infoRoute
 have HL:=hide (linksOf_any w q ds ns vd vn h hwf)
 clear h hwf
 obtain ⟨lk,hlk⟩:∃ lk,lk=linksF ds ns:=⟨_,rfl⟩
 rw [← hlk] at HL hll ⊢
 clear hlk
 go_enter Tryz.func48,Tryz.ntmps48
 go_wp2_with fail
 refine HL.out.mono ?_
 rintro e w1 ⟨v1,rfl,hown1,hb1⟩
 obtain ⟨a1,c1,rfl,hs1⟩:=own_shape hown1
 have HO1:=hide (own_zero hown1)
 have HS1:=hide hs1
 have HB1:=hide hb1
 clear hown1 hs1 hb1 HL
 go_wp2
 go_loopw [5,11] (fun v i wr=>∃ k:Nat,k≤lk.length∧i = .int .i64 k∧Below w1.heap.size w1 wr∧wr.ownsRow w1.heap.size 111 3 v (toPl pl (lk.take k)).length (rtCells (toPl pl (lk.take k)))) (fun _ i _=>lk.length - (intOf i).toNat)
 case atStart=>exact ⟨0,Nat.zero_le _,rfl,Below.refl _ _,World.ownsRow_nil _ _ _ _⟩
 case round=>
  obtain ⟨k,hk,rfl,hbr,hown⟩:=hrel
  have hlen:(toPl pl (lk.take k)).length≤k:=by
   unfold toPl
   have:=List.length_filter_le (fun r=>((r.dst:Nat):Int) == pl) (lk.take k)
   rw [List.length_take] at this
   omega
  by_cases hkl:k<lk.length
  ·obtain ⟨g,rfl,_,hg⟩:=HS1.out (by omega)
   obtain ⟨r,hr⟩:∃ r,r=lk[k]'hkl:=⟨_,rfl⟩
   obtain ⟨r0,r1,r2⟩:=rt_atW HO1.out hbr hg hkl r hr
   have j1:(0:Int)≤(k:Int):=by omega
   have j2:(k:Int)<(lk.length:Int):=by omega
   have HSN:Hid (toPl pl (lk.take (k+1))=toPl pl (lk.take k) ++ (if ((r.dst:Nat):Int)=pl then [r] else [])):=hide (by rw [List.take_succ_eq_append_getElem hkl,toPl_snoc,← hr])
   have HBR:=hide hbr
   have hsz:=hbr.size
   generalize toPl pl (lk.take k)=T at *
   clear hr hbr
   by_cases hp:((r.dst:Nat):Int)=pl
   ·have q1:((r.dst:Int) == pl)=true:=by rw [hp];simp
    have HSN2:Hid (toPl pl (lk.take (k+1))=T ++ [r]):=hide (by rw [HSN.out,if_pos hp])
    clear hp HSN
    have HOWN:=hide hown
    have hownp:∀ o o',((wr.alloc o).alloc o').ownsRow w1.heap.size 111 3 u5 T.length (rtCells T):=fun o o'=>(hown.alloc o).alloc o'
    clear hown
    go_wp2_with (at_builtin;refine wpList_append_lies _ rfl _ _ _ rfl w1.heap.size 111 i0 _ 3 24 Tryz.underlying100 hi0 hz0 hz1 hz2 rfl (by omega) _ T.length (rtCells T) rfl (hownp _ _) ⟨wr.heap.size+1,0,none⟩ 1 1 [.int .i64 (r.src:Int),.int .i64 (r.dst:Int),.bool r.late] rfl rfl (World.news_of_block (cs:=#[.int .i64 (r.src:Int),.int .i64 (r.dst:Int),.bool r.late]) (t:=111) (fr:=(0,0)) (by have:=heap_alloc_new (wr.alloc (.cells #[.int .i64 (r.src:Int),.int .i64 (r.dst:Int),.bool r.late] 111)) (.cells #[.int .i64 (r.src:Int),.int .i64 (r.dst:Int),.bool r.late] 111);simpa using this)) (by simp [Value.oneCell']) (by omega) (by unfold maxLen;omega) (by omega) (by simp;omega) (wr.heap.size+2) (by simp) ?_;intro gg cap2 w3 hown3 hgrow hat hlt3)
    go_roundw
    case rel=>
     refine ⟨k+1,by omega,by go_num,?_,by rw [HSN2.out,rtCells_snocW,List.length_append];exact hown3⟩
     exact ((HBR.out.alloc HBR.out.size _).alloc (by simp;omega) _).grown hgrow (by simp;omega) (fun j hj=>ownBlock_ge HOWN.out j hj)
    case measure=>simp [intOf];omega
   ·have q1:((r.dst:Int) == pl)=false:=by rw [beq_eq_false_iff_ne];exact hp
    have HSN2:Hid (toPl pl (lk.take (k+1))=T):=hide (by rw [HSN.out,if_neg hp,List.append_nil])
    have HOWN:=hide hown
    clear hp HSN hown
    go_wp2
    go_roundw
    case rel=>exact ⟨k+1,by omega,by go_num,HBR.out.alloc HBR.out.size _,by rw [HSN2.out];exact HOWN.out.alloc _⟩
    case measure=>simp [intOf];omega
  ·have ek:k=lk.length:=by omega
   subst ek
   have z9:¬ (lk.length:Int)<(lk.length:Int):=by omega
   rw [List.take_length] at hown
   have HOWN:=hide hown
   have HBR:=hide hbr
   clear hown hbr hlen
   go_wp2
   go_ret
   exact ⟨_,rfl,own_wkO HOWN.out HB1.out.size,HB1.out.trans (HBR.out.mono HB1.out.size)⟩
def WM.nxt (m:WM) (s:WSt) (nx:List Nat):WM:={ m with s:=s,nx:=nx }
theorem rows_nx (ds:List Dc) (ns:List Nd) (lk:List Rt) (m:WM) (r:Nat):∀ j,up (wRow ds ns lk m) 6 ⟨3,1,m.nx.length+1,tCells (m.nx ++ [r])⟩ j=wRow ds ns lk { m with nx:=m.nx ++ [r] } j:=by
 refine row_up ds ns lk m _ 6 _ ?_ ?_
 ·simp [wRow]
 ·intro j hj
  match j,hj with
  | 0,_ | 1,_ | 2,_ | 3,_ | 4,_ | 5,_ | 7,_ | 8,_ | 9,_=>rfl
  | 6,h=>exact absurd rfl h
  | n+10,_=>rfl
set_option maxHeartbeats 4000000 in
set_option maxRecDepth 100000 in
theorem wnext_any (ts:List Tk) (L:List Dl) (ds:List Dc) (ns:List Nd) (lk:List Rt) (pl:Int) (W:WKnow ts L ds ns) (hlk:lk=toPl pl (routesR ts L)) (hP:WPg ts ds ns lk) (BO BC:Nat) (hBO:BO≤1500) (hBC:BC≤1500) (w:World) (X:Nat→Prop) (b:Nat) (m:WM) (h:Wr w X b pl ds ns lk m) (hrs:m.rs.length=ds.length) (hnx:m.nx=[])
  (hN:NxInv ts L ds ns pl lk BO BC 0 m.s []) (hT:∀ (a:Nat) (d:Dc),ds[a]? = some d→d.kind≠0→((plAt ds (a:Int):Nat):Int)=pl→m.rs.getD a 0<m.s.ops.length) (f:Nat) (hf:lw (m.s.later.drop 0)<f) :
  Calls Tryz.prog 50 #[.pointer (some ⟨b,0,none⟩)] w fun e w'=>
   e = .returned (.tuple #[])∧Wr w' X b pl ds ns lk (m.nxt (wNext (m.env ts ds pl lk) f 0 m.s []).1 (wNext (m.env ts ds pl lk) f 0 m.s []).2)∧Fr X w w':=by
 obtain ⟨i0,hi0,hz0,hz1,hz2⟩:=info_parts Tryz.infoIntO
 obtain ⟨R,hR⟩:∃ R,R=wNext (m.env ts ds pl lk) f 0 m.s []:=⟨_,rfl⟩
 rw [← hR]
 have HST:Hid (∃ (s:WSt) (acc:List Nat) (f':Nat),Wr w X b pl ds ns lk (m.nxt s acc)∧NxInv ts L ds ns pl lk BO BC 0 s acc∧lw (s.later.drop 0)<f'∧wNext (m.env ts ds pl lk) f' 0 s acc=R∧(∀ (a:Nat) (d:Dc),ds[a]? = some d→d.kind≠0→((plAt ds (a:Int):Nat):Int)=pl→m.rs.getD a 0<s.ops.length)∧Fr X w w):=
  hide ⟨m.s,[],f,by rw [show m.nxt m.s []=m from (by unfold WM.nxt;rw [← hnx])];exact h,hN,hf,hR.symm,hT,Fr.refl _ _⟩
 have HW:=hide W
 have HLK:=hide hlk
 have HP:=hide hP
 clear h hnx hN hT hf hR W hlk hP
 go_enter Tryz.func50,Tryz.ntmps50
 go_wp2
 go_loopw [2] (fun vi wr=>∃ (k:Nat) (s:WSt) (acc:List Nat) (f':Nat),vi = .int .i64 k∧Wr wr X b pl ds ns lk (m.nxt s acc)∧NxInv ts L ds ns pl lk BO BC k s acc∧lw (s.later.drop k)<f'∧wNext (m.env ts ds pl lk) f' k s acc=R∧(∀ (a:Nat) (d:Dc),ds[a]? = some d→d.kind≠0→((plAt ds (a:Int):Nat):Int)=pl→m.rs.getD a 0<s.ops.length)∧Fr X w wr) (fun vi _=>2000 - (intOf vi).toNat)
 case atStart=>
  obtain ⟨s,acc,f',h1,h2,h3,h4,h5,h6⟩:=HST.out
  exact ⟨0,s,acc,f',rfl,h1,h2,h3,h4,h5,h6⟩
 case round=>
  clear HST
  obtain ⟨k,s,acc,f',rfl,hWr,hN,hf,hR,hT,hF⟩:=hrel
  have hkle:=hN.le
  have hlc:=hN.sm
  have hbc:=hN.bc
  have hal:=hN.al
  obtain ⟨v,hv⟩:=hWr
  obtain ⟨a9,c9,e9,hs9⟩:=own_shape (hv.rows 9)
  have e9':v 9 = .slice a9 (s.later.map Lt.o).length c9:=e9
  have hown9:wr.ownsRow 0 3 1 (.slice a9 (s.later.map Lt.o).length c9) (s.later.map Lt.o).length (tCells (s.later.map Lt.o)):=by rw [← e9'];exact hv.rows 9
  have hs9':0<(s.later.map Lt.o).length→∃ g,a9=some ⟨g,0,none⟩∧0≤g∧g<wr.heap.size:=hs9
  have y9:wr.cell? ⟨b,9,none⟩=some (.slice a9 (s.later.map Lt.o).length c9):=by rw [← e9'];exact hv.cell.2.2.2.2.2.2.2.2.2
  have hlm:(s.later.map Lt.o).length=s.later.length:=List.length_map _
  rw [hlm] at hown9 y9 hs9' e9'
  have HWR:Hid (Wr wr X b pl ds ns lk (m.nxt s acc)):=hide ⟨v,hv⟩
  have HF:=hide hF
  clear e9 hs9 hv
  by_cases hkl:k<s.later.length
  ·obtain ⟨g9,rfl,_,hg9⟩:=hs9' (by omega)
   obtain ⟨l,hl⟩:∃ l,l=s.later[k]'hkl:=⟨_,rfl⟩
   have hlk':s.later[k]? = some l:=by rw [List.getElem?_eq_getElem hkl,hl]
   have x9:wr.cell? ⟨g9,k,none⟩=some (.int .i64 (l.o:Int)):=by
    rw [hown9.cellAt k (by omega)]
    unfold tCells
    rw [List.getElem?_map,List.getElem?_map,hlk'];rfl
   have hL:=hN.lt l (List.mem_of_getElem? hlk')
   have hbo:=hN.bo
   have hw1:=lw_drop hlk'
   have hf1:=lf_drop (ts:=ts) hlk'
   have HIH:=hide (wexpr_any ts ds ns lk pl HP.out l.t l.i l.dl l.o hL.sp hL.nd wr X b (m.nxt s acc) HWR.out hrs ⟨by show s.ops.length+_≤_;omega,by show s.cells.length+_≤_;omega,by show s.later.length+_≤_;omega⟩)
   have hstep:=ninv_step HW.out HLK.out hN hT hlk'
   have hpre:=pre_expr (m.env ts ds pl lk) l.t l.i l.dl l.o s
   have hgain:=wx_gain (m.env ts ds pl lk) l.t l.i l.dl l.o s
   obtain ⟨y,hy⟩:∃ y,y=wExpr (m.env ts ds pl lk) l.t l.i l.dl l.o s:=⟨_,rfl⟩
   have e2:wExpr ((m.nxt s acc).env ts ds pl lk) l.t l.i l.dl l.o (m.nxt s acc).s=y:=hy.symm
   rw [e2] at HIH
   have hstep':NxInv ts L ds ns pl lk BO BC (k+1) y.1 (acc ++ [y.2]):=by rw [hy];exact hstep
   rw [← hy] at hpre hgain
   obtain ⟨f2,rfl⟩:∃ f2,f'=f2+1:=⟨f' - 1,by omega⟩
   have hR2:wNext (m.env ts ds pl lk) f2 (k+1) y.1 (acc ++ [y.2])=R:=by
    rw [← hR]
    simp only [wNext,hlk']
    rw [← hy]
   have hf2:lw (y.1.later.drop (k+1))<f2:=by
    obtain ⟨o,c,mm,hm⟩:=hpre
    have hml:y.1.later=s.later ++ mm:=by rw [hm]
    rw [hml,List.drop_append_of_le_length (by omega),lw_app]
    rw [hml,lw_app] at hgain
    omega
   have hT2:∀ (a:Nat) (d:Dc),ds[a]? = some d→d.kind≠0→((plAt ds (a:Int):Nat):Int)=pl→m.rs.getD a 0<y.1.ops.length:=fun a d h1 h2 h3=>Nat.lt_of_lt_of_le (hT a d h1 h2 h3) hpre.len.1
   have HNEW:=hide (show NxInv ts L ds ns pl lk BO BC (k+1) y.1 (acc ++ [y.2])∧lw (y.1.later.drop (k+1))<f2∧wNext (m.env ts ds pl lk) f2 (k+1) y.1 (acc ++ [y.2])=R∧(∀ (a:Nat) (d:Dc),ds[a]? = some d→d.kind≠0→((plAt ds (a:Int):Nat):Int)=pl→m.rs.getD a 0<y.1.ops.length) from ⟨hstep',hf2,hR2,hT2⟩)
   have hacl:acc.length≤1500:=by omega
   have hk15:k≤1500:=by omega
   have j1:(0:Int)≤(k:Int):=by omega
   have j2:(k:Int)<(s.later.length:Int):=by omega
   have HK:=hide hkl
   clear hN hR hT hlk' hl hL hstep hstep' hpre hgain hy e2 hR2 hf2 hT2 hown9 hs9' e9' hlm hf hF hw1 hf1 hbo hkl hal hlc hbc hkle
   go_wp2_with fail
   refine HIH.out.mono ?_
   rintro e w2 ⟨rfl,hw2,hf2⟩
   have HF2:=hide (HF.out.trans hf2)
   obtain ⟨v,hv⟩:=hw2
   obtain ⟨a6,c6,e6,_⟩:=own_shape (hv.rows 6)
   have e6':v 6 = .slice a6 acc.length c6:=e6
   have hown:w2.ownsRow 0 3 1 (.slice a6 acc.length c6) acc.length (tCells acc):=by rw [← e6'];exact hv.rows 6
   have y6:w2.cell? ⟨b,6,none⟩=some (.slice a6 acc.length c6):=by rw [← e6'];exact hv.cell.2.2.2.2.2.2.1
   have lb:=hv.lt
   have fz6:=hv.froz 6
   have nbv:(Value.slice a6 acc.length c6).ownBlock≠some b:=by rw [← e6'];exact hv.nb 6
   have ca:(w2.alloc (.cells #[.int .i64 (y.2:Int)] 3)).cell? ⟨b,6,none⟩=some (.slice a6 acc.length c6):=by rw [World.cell?_alloc_past _ _ _ lb];exact y6
   have fa:(w2.alloc (.cells #[.int .i64 (y.2:Int)] 3)).frozen? ⟨b,6,none⟩=false:=by rw [World.frozen?_alloc_past _ _ _ lb];exact fz6
   have HV:=hide hv
   have HE6:=hide e6'
   have HRA:=hide (rows_nx ds ns lk ((m.nxt s acc).st y.1) y.2)
   clear hv e6 e6' hf2 HIH HF x9 y9
   go_wp2_with (at_builtin;refine wpList_append_lies _ rfl _ _ _ rfl 0 3 i0 _ 1 8 Tryz.underlying34 hi0 hz0 hz1 hz2 rfl (by omega) _ acc.length (tCells acc) rfl (hown.alloc _) ⟨w2.heap.size,0,none⟩ 1 1 [.int .i64 (y.2:Int)] rfl rfl (World.news_of_block (cs:=#[.int .i64 (y.2:Int)]) (t:=3) (fr:=(0,0)) (heap_alloc_new w2 _)) (by simp [Value.oneCell']) (by omega) (by unfold maxLen;omega) (by omega) (by simp) (w2.heap.size+1) (by simp) ?_;intro gg cap2 w3 hown3 hgrow hat hlt3;have k6:=(hgrow.cell_far ⟨b,6,none⟩ (by simp;omega) (Ne.symm nbv)).trans ca;have z6:=(hgrow.frozen_far ⟨b,6,none⟩ (by simp;omega) (Ne.symm nbv)).trans fa)
   go_roundw
   case rel=>
    have hPa:=HV.out.below ((Below.refl w2.heap.size w2).alloc (Nat.le_refl _) (.cells #[.int .i64 (y.2:Int)] 3))
    have hfin:=hPa.push 6 (by omega) (g:=gg) (cap:=cap2) (len:=acc.length+1) (r:=⟨3,1,acc.length+1,tCells (acc ++ [y.2])⟩) (by rw [HE6.out];exact hgrow) (by rw [tCells_snoc];exact hown3) rfl (by rw [HE6.out];exact hat_le hat (by simp))
    obtain ⟨n1,n2,n3,n4⟩:=HNEW.out
    exact ⟨k+1,y.1,acc ++ [y.2],f2,by go_num,⟨_,hfin.1.cast HRA.out⟩,n1,n2,n3,n4,(HF2.out.trans (Fr.of_below ((Below.refl w2.heap.size w2).alloc (Nat.le_refl _) (.cells #[.int .i64 (y.2:Int)] 3)) HV.out.xlt)).trans hfin.2⟩
   case measure=>simp [intOf];omega
  ·have ek:k=s.later.length:=by omega
   subst ek
   have z9:¬ (s.later.length:Int)<(s.later.length:Int):=by omega
   have hRR:R=(s,acc):=by
    rw [← hR]
    obtain ⟨f2,rfl⟩:∃ f2,f'=f2+1:=⟨f' - 1,by omega⟩
    simp only [wNext,List.getElem?_eq_none (Nat.le_refl s.later.length)]
   have HRR:=hide hRR
   clear hN hR hT hRR hown9 hs9' e9' hlm hf hF hal hlc hbc hkle
   go_wp2
   go_end0
   exact ⟨rfl,by rw [HRR.out];exact HWR.out,HF.out⟩
theorem outP_snoc (pl:Int) (d:Dc):∀ (l:List Dc) (a:Nat),outP pl a (l ++ [d])=outP pl a l ++ (if d.kind≠0∧((d.place:Nat):Int)=pl then [(a+l.length,d.number)] else []):=by
 intro l
 induction l with
 | nil=>intro a;simp only [List.nil_append,outP,List.length_nil,Nat.add_zero]
 | cons x r ih=>
  intro a
  simp only [List.cons_append,outP,List.length_cons]
  rw [ih (a+1),show a+1+r.length=a+(r.length+1) by omega]
  by_cases h:x.kind≠0∧((x.place:Nat):Int)=pl
  ·rw [if_pos h,if_pos h];rfl
  ·rw [if_neg h,if_neg h]
def outsW (pl:Int) (rs:List Nat) (l:List Dc):List Nat:=(outP pl 0 l).map fun p=>rs.getD p.1 0
theorem outsW_snoc (pl:Int) (rs:List Nat) (l:List Dc) (d:Dc):outsW pl rs (l ++ [d])=outsW pl rs l ++ (if d.kind≠0∧((d.place:Nat):Int)=pl then [rs.getD l.length 0] else []):=by
 unfold outsW
 rw [outP_snoc,List.map_append]
 by_cases h:d.kind≠0∧((d.place:Nat):Int)=pl
 ·rw [if_pos h,if_pos h];simp
 ·rw [if_neg h,if_neg h];rfl
theorem outsW_len (pl:Int) (rs:List Nat):∀ (l:List Dc),(outsW pl rs l).length≤l.length:=by
 intro l
 unfold outsW
 rw [List.length_map]
 have:∀ (l:List Dc) (a:Nat),(outP pl a l).length≤l.length:=by
  intro l
  induction l with
  | nil=>intro a;simp [outP]
  | cons x r ih=>
   intro a
   simp only [outP]
   split
   ·have:=ih (a+1);simp;omega
   ·have:=ih (a+1);simp;omega
 exact this l 0
def dcBlkW (d:Dc):Obj:=.cells #[.int .i64 (d.kind:Int),.int .i64 (d.number:Int),.string d.name,.int .i64 (d.pos:Int),.int .i64 (d.place:Int),.int .i64 (d.root:Int),.int .i64 (d.fin:Int)] 91
def WM.outs (m:WM) (o:List Nat):WM:={ m with out:=o }
theorem rows_out (ds:List Dc) (ns:List Nd) (lk:List Rt) (m:WM) (o:List Nat) (r:Nat):∀ j,up (wRow ds ns lk (m.outs o)) 7 ⟨3,1,o.length+1,tCells (o ++ [r])⟩ j=wRow ds ns lk (m.outs (o ++ [r])) j:=by
 refine row_up ds ns lk _ _ 7 _ ?_ ?_
 ·simp [wRow,WM.outs]
 ·intro j hj
  match j,hj with
  | 0,_ | 1,_ | 2,_ | 3,_ | 4,_ | 5,_ | 6,_ | 8,_ | 9,_=>rfl
  | 7,h=>exact absurd rfl h
  | n+10,_=>rfl
set_option maxHeartbeats 4000000 in
set_option maxRecDepth 100000 in
theorem wout_any (w:World) (X:Nat→Prop) (b:Nat) (pl:Int) (ds:List Dc) (ns:List Nd) (lk:List Rt) (m:WM) (h:Wr w X b pl ds ns lk (m.outs [])) (hrs:m.rs.length=ds.length) (hd16:ds.length≤300) :
  Calls Tryz.prog 51 #[.pointer (some ⟨b,0,none⟩)] w fun e w'=>
   e = .returned (.tuple #[])∧Wr w' X b pl ds ns lk (m.outs (outsW pl m.rs ds))∧Fr X w w':=by
 obtain ⟨i0,hi0,hz0,hz1,hz2⟩:=info_parts Tryz.infoIntO
 have HWR:=hide h
 obtain ⟨v0,hv0⟩:=h
 obtain ⟨a0,c0,e0,hs0⟩:=own_shape (hv0.rows 0)
 have y0:w.cell? ⟨b,0,none⟩=some (.slice a0 ds.length c0):=by rw [hv0.cell.1];exact congrArg some e0
 have hs0':0<ds.length→∃ g,a0=some ⟨g,0,none⟩∧0≤g∧g<w.heap.size:=hs0
 have HS0:=hide hs0'
 have HE0:=hide (show v0 0 = .slice a0 ds.length c0 from e0)
 clear hv0 e0 hs0 hs0'
 go_enter Tryz.func51,Tryz.ntmps51
 go_wp2
 go_loopw [10] (fun vi wr=>∃ k:Nat,k≤ds.length∧vi = .int .i64 k∧(∃ v,WrV wr X b pl (wRow ds ns lk (m.outs (outsW pl m.rs (ds.take k)))) v∧v 0 = .slice a0 ds.length c0)∧Fr X w wr) (fun vi _=>ds.length - (intOf vi).toNat)
 case atStart=>
  obtain ⟨v,hv⟩:=HWR.out
  refine ⟨0,Nat.zero_le _,rfl,⟨v,hv,?_⟩,Fr.refl _ _⟩
  have:=hv.cell.1
  rw [y0] at this
  exact (Option.some.inj this).symm
 case round=>
  obtain ⟨k,hk,rfl,⟨v,hv,hv0⟩,hF⟩:=hrel
  have hol:(outsW pl m.rs (ds.take k)).length≤300:=by have:=outsW_len pl m.rs (ds.take k);rw [List.length_take] at this;omega
  by_cases hkl:k<ds.length
  ·obtain ⟨d,hdd⟩:∃ d,d=ds[k]'hkl:=⟨_,rfl⟩
   have hown0r:wr.ownsRow 0 91 7 (.slice a0 ds.length c0) ds.length (dcCells ds):=by rw [← hv0];exact hv.rows 0
   obtain ⟨g0,rfl,_,_⟩:=HS0.out (by omega)
   have hg0:g0<wr.heap.size:=(hown0r.lt g0 rfl).2
   obtain ⟨x0,x1,x2,x3,x4,x5,x6⟩:=dc_later hown0r (Below.refl _ _) hg0 hkl d hdd
   have HSN:Hid (outsW pl m.rs (ds.take (k+1))=outsW pl m.rs (ds.take k) ++ (if d.kind≠0∧((d.place:Nat):Int)=pl then [m.rs.getD k 0] else [])):=hide (by
    rw [List.take_succ_eq_append_getElem hkl,outsW_snoc,← hdd,List.length_take,Nat.min_eq_left (by omega)])
   obtain ⟨w1,hw1⟩:∃ w1,w1=(wr.alloc (dcBlkW d)).drew:=⟨_,rfl⟩
   have hb1:Below wr.heap.size wr w1:=by rw [hw1];exact ((Below.refl _ _).alloc (Nat.le_refl _) _).drew
   have hv1:=hv.below hb1
   have HF1:=hide (hF.trans (Fr.of_below hb1 hv.xlt))
   have z2:∀ o,(wr.alloc o).cell? ⟨b,2,none⟩=some (.int .i64 pl):=fun o=>(hv.below ((Below.refl _ _).alloc (Nat.le_refl _) o)).cell.2.2.1
   have j1:(0:Int)≤(k:Int):=by omega
   have j2:(k:Int)<(ds.length:Int):=by omega
   have HV1:=hide hv1
   have HV0:=hide hv0
   obtain ⟨O,hO⟩:∃ O,O=outsW pl m.rs (ds.take k):=⟨_,rfl⟩
   rw [← hO] at HV1 HSN hol
   unfold dcBlkW at hw1
   by_cases hkd:d.kind=0
   ·have q0:((d.kind:Int) != 0)=false:=by rw [hkd];rfl
    have HSN2:Hid (outsW pl m.rs (ds.take (k+1))=O):=hide (by rw [HSN.out,if_neg (fun h=>h.1 hkd),List.append_nil])
    clear hv hv1 hv0 hF hdd hown0r hb1 hkd hO HSN
    go_wp2_with fail
    go_big_region
    rw [← hw1]
    clear hw1
    go_wp2
    go_roundw
    case rel=>exact ⟨k+1,by omega,by go_num,⟨v,by rw [HSN2.out];exact HV1.out,HV0.out⟩,HF1.out⟩
    case measure=>simp [intOf];omega
   ·have q0:((d.kind:Int) != 0)=true:=by rw [bne_iff_ne];omega
    by_cases hp:((d.place:Nat):Int)=pl
    ·have q1:((d.place:Int) == pl)=true:=by rw [hp];simp
     have HSN2:Hid (outsW pl m.rs (ds.take (k+1))=O ++ [m.rs.getD k 0]):=hide (by rw [HSN.out,if_pos ⟨hkd,hp⟩])
     obtain ⟨a8,c8,e8,hs8⟩:=own_shape (hv1.rows 8)
     obtain ⟨g8,rfl,_,hg8⟩:=hs8 (by show 0<m.rs.length;omega)
     have e8':v 8 = .slice (some ⟨g8,0,none⟩) m.rs.length c8:=e8
     have hown8:w1.ownsRow 0 3 1 (.slice (some ⟨g8,0,none⟩) m.rs.length c8) m.rs.length (tCells m.rs):=by rw [← e8'];exact hv1.rows 8
     obtain ⟨a7,c7,e7,_⟩:=own_shape (HV1.out.rows 7)
     have e7':v 7 = .slice a7 O.length c7:=e7
     have hown:w1.ownsRow 0 3 1 (.slice a7 O.length c7) O.length (tCells O):=by rw [← e7'];exact HV1.out.rows 7
     have y7:w1.cell? ⟨b,7,none⟩=some (.slice a7 O.length c7):=by rw [← e7'];exact hv1.cell.2.2.2.2.2.2.2.1
     have y8:w1.cell? ⟨b,8,none⟩=some (.slice (some ⟨g8,0,none⟩) m.rs.length c8):=by rw [← e8'];exact hv1.cell.2.2.2.2.2.2.2.2.1
     have z8:w1.cell? ⟨g8,k,none⟩=some (.int .i64 ((m.rs.getD k 0:Nat):Int)):=by
      rw [hown8.cellAt k (by omega)]
      unfold tCells
      rw [List.getElem?_map,List.getElem?_eq_getElem (by omega),List.getD_eq_getElem?_getD,List.getElem?_eq_getElem (by omega)];rfl
     obtain ⟨rv,hrv⟩:∃ rv,rv=m.rs.getD k 0:=⟨_,rfl⟩
     rw [← hrv] at z8 HSN2
     have lb:=hv1.lt
     have fz7:=hv1.froz 7
     have nbv:(Value.slice a7 O.length c7).ownBlock≠some b:=by rw [← e7'];exact hv1.nb 7
     have ca:∀ o,(w1.alloc o).cell? ⟨b,7,none⟩=some (.slice a7 O.length c7):=fun o=>by rw [World.cell?_alloc_past _ _ _ lb];exact y7
     have fa:∀ o,(w1.alloc o).frozen? ⟨b,7,none⟩=false:=fun o=>by rw [World.frozen?_alloc_past _ _ _ lb];exact fz7
     have HE7:=hide e7'
     have HRA:=hide (rows_out ds ns lk m O rv)
     have j5:(k:Int)<(m.rs.length:Int):=by omega
     have HXL:=hide hv1.xlt
     clear hv hv1 hv0 hF hdd hown0r hb1 hkd hO HSN hp e7 e7' e8 e8' hs8 hown8 hrv
     go_wp2_with fail
     go_big_region
     rw [← hw1]
     clear hw1 z2 x0 x1 x2 x3 x4 x5 x6
     go_wp2_with fail
     go_region_law ((refine step_append_lies _ (by rfl) _ _ _ (by rfl) 0 3 i0 _ 1 8 Tryz.underlying34 hi0 hz0 hz1 hz2 rfl (by omega) (.slice a7 O.length c7) O.length (tCells O) (by rfl) ((hown.alloc _).drew) ⟨w1.heap.size,0,none⟩ 1 1 [.int .i64 (rv:Int)] (by rfl) (by rfl) (World.news_of_block (cs:=#[.int .i64 (rv:Int)]) (t:=3) (fr:=(0,0)) (heap_alloc_new w1 _)) (by simp [Value.oneCell']) (by omega) (by unfold maxLen;omega) (by omega) (by simp) (w1.heap.size+1) (by simp) ?_;intro gg cap2 w5 hown3 hgrow hat hlt3;have k4:=(hgrow.cell_far ⟨b,7,none⟩ (by simp;omega) (Ne.symm nbv)).trans (ca _);have e4:=(hgrow.frozen_far ⟨b,7,none⟩ (by simp;omega) (Ne.symm nbv)).trans (fa _)))
     all_goals
      have hPa:=HV1.out.below (((Below.refl w1.heap.size w1).alloc (Nat.le_refl _) (.cells #[.int .i64 (rv:Int)] 3)).drew)
      have hfin:=hPa.push 7 (by omega) (g:=gg) (cap:=cap2) (len:=O.length+1) (r:=⟨3,1,O.length+1,tCells (O ++ [rv])⟩) (by rw [HE7.out];exact hgrow) (by rw [tCells_snoc];exact hown3) rfl (by rw [HE7.out];exact hat_le hat (by simp))
      have HFIN:=hide hfin
      clear hown3 hgrow hat hPa hfin hown k4 e4 y7 y8 z8 fz7
      go_wp2
      go_roundw
      case rel=>exact ⟨k+1,by omega,by go_num,⟨_,by rw [HSN2.out];exact HFIN.out.1.cast HRA.out,by rw [up_other _ _ (by omega)];exact HV0.out⟩,HF1.out.trans ((Fr.of_below (((Below.refl w1.heap.size w1).alloc (Nat.le_refl _) (.cells #[.int .i64 (rv:Int)] 3)).drew) HXL.out).trans HFIN.out.2)⟩
      case measure=>simp [intOf];omega
    ·have q1:((d.place:Int) == pl)=false:=by rw [beq_eq_false_iff_ne];exact hp
     have HSN2:Hid (outsW pl m.rs (ds.take (k+1))=O):=hide (by rw [HSN.out,if_neg (fun h=>hp h.2),List.append_nil])
     clear hv hv1 hv0 hF hdd hown0r hb1 hkd hO HSN hp
     go_wp2_with fail
     go_big_region
     rw [← hw1]
     clear hw1
     go_wp2
     go_roundw
     case rel=>exact ⟨k+1,by omega,by go_num,⟨v,by rw [HSN2.out];exact HV1.out,HV0.out⟩,HF1.out⟩
     case measure=>simp [intOf];omega
  ·have ek:k=ds.length:=by omega
   subst ek
   have z9:¬ (ds.length:Int)<(ds.length:Int):=by omega
   rw [List.take_length] at hv
   have HV:=hide hv
   have HF:=hide hF
   clear hv hF hv0 hol
   go_wp2
   go_end0
   exact ⟨rfl,⟨v,HV.out⟩,HF.out⟩
def ordStep (ds:List Dc) (H:Mx) (T:List Nat) (i:Nat):List Nat:=if kindAt ds (i:Int)≠0∧i ∉ T∧∀ j,j<ds.length→H i j=true→decide (j∈T)=true then T ++ [i] else T
def ordRow (ds:List Dc) (H:Mx) (T:List Nat) (i:Nat):List Nat:=(List.range i).foldl (ordStep ds H) T
theorem ordRow_succ (ds:List Dc) (H:Mx) (T:List Nat) (i:Nat):ordRow ds H T (i+1)=ordStep ds H (ordRow ds H T i) i:=by
 unfold ordRow;rw [List.range_succ,List.foldl_append];rfl
def ordAll (ds:List Dc) (H:Mx):Nat→List Nat
 | 0=>[]
 | r+1=>ordRow ds H (ordAll ds H r) ds.length
def orderF (ds:List Dc) (H:Mx):List Nat:=ordAll ds H ds.length
theorem kind_get {ds:List Dc}{i:Nat}{d:Dc} (h:ds[i]? = some d):kindAt ds (i:Int)=d.kind:=by
 unfold kindAt;rw [Int.toNat_natCast,List.getD_eq_getElem?_getD,h];rfl
theorem ord_nodup (ds:List Dc) (H:Mx):(orderF ds H).Nodup:=by
 have h1:∀ (i:Nat) (T:List Nat),T.Nodup→(ordRow ds H T i).Nodup:=by
  intro i
  induction i with
  | zero=>intro T h;exact h
  | succ i ih=>
   intro T h
   rw [ordRow_succ,ordStep]
   split
   ·rename_i hc
    rw [List.nodup_append]
    refine ⟨ih T h,by simp,fun a ha b hb=>?_⟩
    rw [List.mem_singleton] at hb
    subst hb
    intro e;subst e;exact hc.2.1 ha
   ·exact ih T h
 have h2:∀ r,(ordAll ds H r).Nodup:=by
  intro r
  induction r with
  | zero=>exact List.nodup_nil
  | succ r ih=>exact h1 _ _ ih
 exact h2 _
set_option maxHeartbeats 2000000 in
set_option maxRecDepth 100000 in
theorem order_is (w:World) (q:Nat) (ds:List Dc) (ns:List Nd) (vd vn:Value) (h:ProgAt w q ds ns vd vn) (hwf:ProgWf ds ns) (hbd:∀ n∈ns,n.kind=2→0≤n.decl) (hn:ds.length≤16) (rank:Nat→Nat) (hR:Ranked ds (markAll ds ns 0 ds noM) rank) :
  Calls Tryz.prog 37 #[.pointer (some ⟨q,0,none⟩)] w fun e w'=>∃ v T,e = .returned v∧OrdOk ds (markAll ds ns 0 ds noM) T∧T=orderF ds (markAll ds ns 0 ds noM)∧w'.ownsRow w.heap.size 3 1 v T.length (tCells T)∧Below w.heap.size w w':=by
 have c0:=h.c0
 obtain ⟨av,cap,rfl,hsh⟩:=own_shape h.decls
 obtain ⟨i0,hi0,hz0,hz1,hz2⟩:=info_parts Tryz.infoIntO
 have hm2:=run_make_row' (P:=Tryz.prog) 97 4 (.bool false) 1 Tryz.underlying97 Tryz.infoBool rfl .i64 .i64 ds.length (by omega) (by omega)
 have HSH:=hide hsh
 have HP:=hide h
 have HR:=hide hR
 have HH:=hide (hangs_any w q ds ns _ _ h hwf hbd)
 clear h hsh hwf hbd hR
 go_enter Tryz.func37,Tryz.ntmps37
 go_wp2_with fail
 refine HH.out.mono ?_
 rintro e w1 ⟨rfl,⟨R,hM1,hR1⟩,hb1,hs1⟩
 have c0':∀ o,(w1.alloc o).cell? ⟨q,0,none⟩=some (.slice av ds.length cap):=fun o=>(HP.out.below (hb1.alloc hb1.size o)).c0
 have c0'':=(HP.out.below hb1).c0
 obtain ⟨H,hHE⟩:∃ H,H=markAll ds ns 0 ds noM:=⟨_,rfl⟩
 rw [← hHE] at hM1 HR
 have HHE:=hide hHE
 clear hHE
 have HS:Hid (∀ o,o = .cells (madeCells #[.bool false] ds.length) 4→OrdS w (w1.alloc o) w1.heap.size ds R H [] (.slice none 0 0)):=hide (fun o ho=>by
  subst ho
  exact ⟨hb1.alloc hb1.size _,hM1.alloc _,(World.rowIs_made w1 (.bool false) ds.length 4).congr (fun j _=>by simp),World.ownsRow_nil _ _ _ _,fun t ht=>by simp at ht,fun j t ht=>by simp at ht,fun i hi=>World.rowIs.lt (hM1.rows i hi),hs1⟩)
 have HGE:=hide hs1
 clear hM1 hR1 HH c0 hb1 hs1
 go_wp2
 go_loopw [5,21] (fun v vr wr=>∃ (r:Nat) (T:List Nat),r≤ds.length∧vr = .int .i64 r∧OrdS w wr w1.heap.size ds R H T v∧T.length≤r * 16∧(∀ (a:Nat) (d:Dc),ds[a]? = some d→d.kind≠0→rank a<r→a∈T)∧T=ordAll ds H r) (fun _ vr _=>ds.length - (intOf vr).toNat)
 case atStart=>exact ⟨0,[],Nat.zero_le _,rfl,HS.out _ rfl,by simp,fun a d _ _ h=>by omega,rfl⟩
 case round=>
  clear HS c0' c0''
  obtain ⟨r,T,hr,rfl,hS,hlen,hall,hTe⟩:=hrel
  have HTE:=hide hTe
  clear hTe
  by_cases hrl:r<ds.length
  ·have p0:=(HP.out.below hS.bel).c0
   have j1:(r:Int)<(ds.length:Int):=by omega
   have HSS:=hide hS
   have HALL:=hide hall
   have hl0:T.length≤r * 16+0:=by omega
   clear hS hall
   go_wp2
   go_loopw [5,28] (fun v vi wr=>∃ (i:Nat) (T:List Nat),i≤ds.length∧vi = .int .i64 i∧OrdS w wr w1.heap.size ds R H T v∧T.length≤r * 16+i∧(∀ (a:Nat) (d:Dc),ds[a]? = some d→d.kind≠0→rank a<r→a∈T)∧(∀ (a:Nat) (d:Dc),ds[a]? = some d→d.kind≠0→a<i→rank a≤r→a∈T)∧T=ordRow ds H (ordAll ds H r) i) (fun _ vi _=>ds.length - (intOf vi).toNat)
   case atStart=>exact ⟨0,T,Nat.zero_le _,rfl,HSS.out,hl0,HALL.out,fun a d _ _ h=>by omega,HTE.out⟩
   case round=>
    clear HSS HALL p0 hl0 hlen
    obtain ⟨i,T,hi,rfl,hS,hlen,hall,hrow,hTi⟩:=hrel
    have HTI:=hide hTi
    clear hTi
    by_cases hil:i<ds.length
    ·obtain ⟨g,rfl,_,hg2⟩:=HSH.out (by omega)
     obtain ⟨a,ha⟩:∃ a,a=ds[i]'hil:=⟨_,rfl⟩
     obtain ⟨x0,x1,x2,x3,x4,x5,x6⟩:=dc_later HP.out.decls hS.bel hg2 hil a ha
     have had:ds[i]? = some a:=by rw [List.getElem?_eq_getElem hil,ha]
     have j3:(0:Int)≤(i:Int):=by omega
     have j4:(i:Int)<(ds.length:Int):=by omega
     have o1:∀ o,(wr.alloc o).cell? ⟨w1.heap.size,i,none⟩=some (.bool (decide (i∈T))):=fun o=>(hS.alloc o).done.cell hil
     have f1:∀ o,(wr.alloc o).frozen? ⟨w1.heap.size,i,none⟩=false:=fun o=>(hS.alloc o).done.frozen i
     have o2:∀ o,(wr.alloc o).cell? ⟨w.heap.size,i,none⟩=some (.slice (some ⟨R i,0,none⟩) ds.length ds.length):=fun o=>(hS.alloc o).mat.outer i hil
     have HRD:=hide (fun o=>ready_any (wr.alloc o) (R i) w1.heap.size ds.length ds.length ds.length (H i) (fun j=>decide (j∈T)) ((hS.alloc o).mat.rows i hil) (hS.alloc o).done (by omega))
     have HSS:=hide hS
     have HALL:=hide hall
     have HROW:=hide hrow
     have HAD:=hide had
     clear hS hall hrow ha had
     by_cases hk0:a.kind=0
     ·have q0:((a.kind:Int) != 0)=false:=by rw [hk0];rfl
      have HK:=hide hk0
      clear hk0
      go_wp2
      go_roundw
      case rel=>
       refine ⟨i+1,T,by omega,by go_num,HSS.out.alloc _,by omega,HALL.out,fun b d hd hkb hlt hrk=>?_,?_⟩
       ·rcases Nat.lt_succ_iff_lt_or_eq.1 hlt with h' | rfl
        ·exact HROW.out b d hd hkb h' hrk
        ·rw [HAD.out] at hd;cases hd;exact absurd HK.out hkb
       ·rw [ordRow_succ,← HTI.out,ordStep,if_neg (fun h=>h.1 (by rw [kind_get HAD.out];exact HK.out))]
      case measure=>simp [intOf];omega
     ·have q0:((a.kind:Int) != 0)=true:=by rw [bne_iff_ne];omega
      have HK:=hide hk0
      clear hk0
      by_cases hmem:i∈T
      ·have qm:decide (i∈T)=true:=by simpa using hmem
       rw [qm] at o1
       have HMEM:=hide hmem
       clear hmem qm
       go_wp2
       go_roundw
       case rel=>
        refine ⟨i+1,T,by omega,by go_num,HSS.out.alloc _,by omega,HALL.out,fun b d hd hkb hlt hrk=>?_,?_⟩
        ·rcases Nat.lt_succ_iff_lt_or_eq.1 hlt with h' | rfl
         ·exact HROW.out b d hd hkb h' hrk
         ·exact HMEM.out
        ·rw [ordRow_succ,← HTI.out,ordStep,if_neg (fun h=>h.2.1 HMEM.out)]
       case measure=>simp [intOf];omega
      ·have qm:decide (i∈T)=false:=by simpa using hmem
       rw [qm] at o1
       clear qm
       by_cases hrd:∀ j,j<ds.length→H i j=true→decide (j∈T)=true
       ·have qr:decide (∀ j,j<ds.length→H i j=true→decide (j∈T)=true)=true:=by rw [decide_eq_true_iff];exact hrd
        have HRY:=hide hrd
        rw [qr] at HRD
        have hTl:T.length≤300:=by
         have:r * 16≤16 * 16:=Nat.mul_le_mul_right _ (by omega)
         omega
        have hown:=HSS.out.own
        have hdql:w1.heap.size<wr.heap.size:=World.rowIs.lt HSS.out.done
        have hownp:∀ o o',(((wr.setCell ⟨w1.heap.size,i,none⟩ (.bool true)).alloc o).alloc o').ownsRow (w1.heap.size+1) 3 1 u5 T.length (tCells T):=fun o o'=>((own_eqb hown (fun b hb=>heap_setCell_other wr ⟨w1.heap.size,i,none⟩ b _ (by have:=(hown.lt b hb).1;show b≠w1.heap.size;omega))).alloc o).alloc o'
        have hWd:∀ o o',(((wr.setCell ⟨w1.heap.size,i,none⟩ (.bool true)).alloc o).alloc o').rowIs w1.heap.size 4 ds.length (fun j=>if j=i then .bool true else .bool (decide (j∈T))):=fun o o'=>(((HSS.out.done.set i (.bool true)).alloc o).alloc o').congr (fun j _=>by rfl)
        have HWD:=hide hWd
        have HNM:=hide hmem
        clear hrd qr hWd hmem
        go_wp2_with fail
        refine (HRD.out _).mono ?_
        rintro e w2 ⟨rfl,rfl⟩
        go_wp2_with (at_builtin;refine wpList_append_lies _ rfl _ _ _ rfl (w1.heap.size+1) 3 i0 _ 1 8 Tryz.underlying34 hi0 hz0 hz1 hz2 rfl (by omega) _ T.length (tCells T) rfl (hownp _ _) ⟨wr.heap.size+1,0,none⟩ 1 1 [.int .i64 (i:Int)] rfl rfl (World.news_of_block (cs:=#[.int .i64 (i:Int)]) (t:=3) (fr:=(0,0)) (by have:=heap_alloc_new ((wr.setCell ⟨w1.heap.size,i,none⟩ (.bool true)).alloc (.cells #[.int .i64 (a.kind:Int),.int .i64 (a.number:Int),.string a.name,.int .i64 (a.pos:Int),.int .i64 (a.place:Int),.int .i64 (a.root:Int),.int .i64 (a.fin:Int)] 91)) (.cells #[.int .i64 (i:Int)] 3);simpa using this)) (by simp [Value.oneCell']) (by omega) (by unfold maxLen;omega) (by omega) (by simp;omega) (wr.heap.size+2) (by simp) ?_;intro gg cap2 w3 hown3 hgrow hat hlt3)
        go_roundw
        case rel=>
         have hbs:=HSS.out.bel.size
         refine ⟨i+1,T ++ [i],by omega,by go_num,?_,by rw [List.length_append];simp;omega,fun b d hd hkb hrk=>List.mem_append_left _ (HALL.out b d hd hkb hrk),fun b d hd hkb hlt hrk=>?_,?_⟩
         ·refine HSS.out.push HAD.out HK.out (fun b hb=>?_) (fun b hb hne=>?_) (HWD.out _ _) ?_ (fun b hb hne=>hgrow.block b hb (Ne.symm hne)) (by simp;omega) hown3
          ·obtain ⟨_,d,hd,_⟩:=HR.out.less i b hb
           have:=HRY.out b (List.getElem?_eq_some_iff.1 hd).1 hb
           simpa using this
          ·rw [Below.heap_alloc _ _ _ (by simp;omega),Below.heap_alloc _ _ _ (by simp;omega)]
           exact heap_setCell_other wr ⟨w1.heap.size,i,none⟩ b _ hne
          ·exact ((((HSS.out.bel.setCell (by show w.heap.size≤w1.heap.size;have:=HGE.out;omega) _).alloc (by simp;omega) _).alloc (by simp;omega) _)).grown hgrow (by simp;omega) (fun j hj=>by have:=ownBlock_ge hown j hj;have:=HGE.out;omega)
         ·rcases Nat.lt_succ_iff_lt_or_eq.1 hlt with h' | rfl
          ·exact List.mem_append_left _ (HROW.out b d hd hkb h' hrk)
          ·simp
         ·rw [ordRow_succ,← HTI.out,ordStep,if_pos ⟨by rw [kind_get HAD.out];exact HK.out,HNM.out,HRY.out⟩]
        case measure=>simp [intOf];omega
       ·have qr:decide (∀ j,j<ds.length→H i j=true→decide (j∈T)=true)=false:=by rw [decide_eq_false_iff_not];exact hrd
        rw [qr] at HRD
        have HRN:=hide hrd
        clear qr hrd hmem
        go_wp2_with fail
        refine (HRD.out _).mono ?_
        rintro e w2 ⟨rfl,rfl⟩
        go_wp2
        go_roundw
        case rel=>
         refine ⟨i+1,T,by omega,by go_num,HSS.out.alloc _,by omega,HALL.out,fun b d hd hkb hlt hrk=>?_,?_⟩
         ·rcases Nat.lt_succ_iff_lt_or_eq.1 hlt with h' | rfl
          ·exact HROW.out b d hd hkb h' hrk
          ·exfalso
           refine HRN.out (fun j hj hh=>?_)
           obtain ⟨h1,e,he,hke⟩:=HR.out.less b j hh
           simpa using HALL.out j e he hke (by omega)
         ·rw [ordRow_succ,← HTI.out,ordStep,if_neg (fun h=>HRN.out h.2.2)]
        case measure=>simp [intOf];omega
    ·have ei:i=ds.length:=by omega
     subst ei
     have HSS:=hide hS
     have HROW:=hide hrow
     clear hS hrow hall
     go_wp2
     go_roundw
     case rel=>
      refine ⟨r+1,T,by omega,by go_num,HSS.out,by omega,fun b d hd hkb hrk=>HROW.out b d hd hkb (List.getElem?_eq_some_iff.1 hd).1 (by omega),HTI.out⟩
     case measure=>simp [intOf];omega
  ·have er:r=ds.length:=by omega
   subst er
   have HSS:=hide hS
   have HALL:=hide hall
   clear hS hall
   go_wp2
   go_ret
   rw [← HHE.out]
   refine ⟨_,T,rfl,⟨HSS.out.eqn,HSS.out.topo,fun b d hd hkb=>HALL.out b d hd hkb (HR.out.lt b d hd hkb),by omega⟩,HTE.out,own_wkO HSS.out.own (by have:=HGE.out;omega),HSS.out.bel⟩
end Go.Proofs.YtecegaflhdgfaaaGreat
