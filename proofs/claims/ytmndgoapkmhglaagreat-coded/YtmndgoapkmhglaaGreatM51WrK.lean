import Derived.Deep.RegionHeld3
import Derived.Test.YtmndgoapkmhglaaGreatM28WrJb
import Derived.Test.YtmndgoapkmhglaaGreatM49CdG
namespace Go.Proofs.YtmndgoapkmhglaaGreat
open Go.RowKit
def mOf (x:WSt × List Nat):WM:=⟨x.1,[],[],x.2⟩
theorem tCells_set (l:List Nat) (t r:Nat):tCells (l.set t r)=(tCells l).set t (.int .i64 (r:Int)):=by unfold tCells;rw [List.map_set]
theorem WrV.root {w:World}{X:Nat→Prop}{b:Nat}{pl:Int}{ds:List Dc}{ns:List Nd}{lk:List Rt}{m:WM}{v:Nat→Value} (h:WrV w X b pl (wRow ds ns lk m) v) {g8 c8:Nat} (e8:v 8 = .slice (some ⟨g8,0,none⟩) m.rs.length c8) (t r:Nat) :
  WrV (w.setCell ⟨g8,t,none⟩ (.int .i64 (r:Int))) X b pl (wRow ds ns lk { m with rs:=m.rs.set t r }) v∧Fr X w (w.setCell ⟨g8,t,none⟩ (.int .i64 (r:Int))):=by
 have h8:w.ownsRow 0 3 1 (.slice (some ⟨g8,0,none⟩) m.rs.length c8) m.rs.length (tCells m.rs):=by rw [← e8];exact h.rows 8
 have hs:=(h8.stored t (.int .i64 (r:Int))).1
 have hg8:(v 8).ownBlock=some g8:=by rw [e8];rfl
 have hne:g8≠b:=fun e=>h.nb 8 (by rw [hg8,e])
 refine ⟨⟨(heap_setCell_other w ⟨g8,t,none⟩ b _ (Ne.symm hne)).trans h.at_b,fun i=>?_,h.apart,h.nb,fun k hk=>by simpa using h.xlt k hk,h.xb,h.xv⟩,(Fr.refl _ _).setCell (h.xv 8 g8 (by omega) hg8) _⟩
 by_cases e:i=8
 ·subst e
  show (w.setCell ⟨g8,t,none⟩ (.int .i64 (r:Int))).ownsRow 0 3 1 (v 8) (m.rs.set t r).length (tCells (m.rs.set t r))
  rw [e8,List.length_set,tCells_set]
  exact hs
 ·have hr:wRow ds ns lk { m with rs:=m.rs.set t r } i=wRow ds ns lk m i:=by
   match i,e with
   | 0,_ | 1,_ | 2,_ | 3,_ | 4,_ | 5,_ | 6,_ | 7,_ | 9,_=>rfl
   | 8,h=>exact absurd rfl h
   | n+10,_=>rfl
  rw [hr]
  exact own_eqb (h.rows i) (fun k hk=>heap_setCell_other w ⟨g8,t,none⟩ k _ (fun e2=>h.apart i 8 k e hk (by rw [hg8];exact congrArg some e2.symm)))
theorem room_turn {ts:List Tk}{L:List Dl}{ds:List Dc}{ns:List Nd}{pl:Int} (W:WKnow ts L ds ns) {lk:List Rt} (hlk:lk=toPl pl (routesR ts L)) {T:List Nat} (hO:OrdOk ds (markAll ds ns 0 ds noM) T) (hnd:T.Nodup) (hsp:Spell ts L 0) (h15:ts.length≤1501) {j:Nat} (hj:j<T.length) {z:Dl} (hz:EqAt ts L ds ns T[j] z) (hp:((plAt ds ((T[j]:Nat):Int):Nat):Int)=pl) :
  Room ts (wRoots ts L ds pl lk (T.take j) (xZero ds)).1 z.t (z.i+5):=by
 have hR:=roots_inv W hlk hO j (by omega)
 have hlL:L.length=ds.length:=W.hB.dx.len
 have hTl:∀ t∈T.take (j+1),t<L.length:=fun t ht=>by
  obtain ⟨d,hd,_⟩:=hO.eqn t (List.mem_of_mem_take ht)
  have:=(List.getElem?_eq_some_iff.1 hd).1
  omega
 have hnd':(T.take (j+1)).Nodup:=hnd.sublist (List.take_sublist _ _)
 have s1:=sum_nodup (fun t=>lenOf ts pl (dlOf L t)) L.length (T.take (j+1)) hnd' hTl
 have s2:=sum_nodup (fun t=>fbyOf ts pl (dlOf L t)) L.length (T.take (j+1)) hnd' hTl
 rw [sum_dl] at s1 s2
 have s3:=spell_sum L 0 hsp
 have s4:=len_sum ts pl L
 have s5:=fby_len ts pl L
 rw [List.take_succ_eq_append_getElem hj,List.map_append,List.sum_append] at s1 s2
 simp only [List.map_cons,List.map_nil,List.sum_cons,List.sum_nil] at s1 s2
 have hp':((placeD ts z:Nat):Int)=pl:=by rw [← hz.place];exact hp
 have hdl:=dlOf_at hz.zat
 have e1:lenOf ts pl (dlOf L T[j])=z.t.len:=by unfold lenOf;rw [hdl,if_pos ⟨hz.kind,hp'⟩]
 have e2:fbyOf ts pl (dlOf L T[j])=fbyT ts (z.i+5) z.t.len:=by unfold fbyOf;rw [hdl,if_pos ⟨hz.kind,hp'⟩]
 rw [e1] at s1
 rw [e2] at s2
 have h1:=hR.bo
 have h2:=hR.bc
 have h3:=hR.sm
 exact ⟨by omega,by omega,by omega⟩
theorem next_pre {ts:List Tk}{L:List Dl}{ds:List Dc}{ns:List Nd}{pl:Int} (W:WKnow ts L ds ns) {lk:List Rt} (hlk:lk=toPl pl (routesR ts L)) {T:List Nat} (hO:OrdOk ds (markAll ds ns 0 ds noM) T) (hnd:T.Nodup) (hsp:Spell ts L 0) (h15:ts.length≤1501) :
  ∃ BO BC,BO≤1500∧BC≤1500∧NxInv ts L ds ns pl lk BO BC 0 (rootsW ts L ds pl lk T).1 []∧lw ((rootsW ts L ds pl lk T).1.later.drop 0)<ts.length+1∧(rootsW ts L ds pl lk T).2.length=ds.length∧
   (∀ (a:Nat) (d:Dc),ds[a]? = some d→d.kind≠0→((plAt ds (a:Int):Nat):Int)=pl→(rootsW ts L ds pl lk T).2.getD a 0<(rootsW ts L ds pl lk T).1.ops.length):=by
 have hR:=roots_all W hlk hO
 have hlL:L.length=ds.length:=W.hB.dx.len
 have hTl:∀ t∈T,t<L.length:=fun t ht=>by
  obtain ⟨d,hd,_⟩:=hO.eqn t ht
  have:=(List.getElem?_eq_some_iff.1 hd).1
  omega
 have s1:=sum_nodup (fun t=>lenOf ts pl (dlOf L t)) L.length T hnd hTl
 have s2:=sum_nodup (fun t=>fbyOf ts pl (dlOf L t)) L.length T hnd hTl
 rw [sum_dl] at s1 s2
 have s3:=spell_sum L 0 hsp
 have s4:=len_sum ts pl L
 have s5:=fby_len ts pl L
 have hbo:=hR.bo
 have hbc:=hR.bc
 refine ⟨(L.map (lenOf ts pl)).sum,(L.map (fbyOf ts pl)).sum,by omega,by omega,⟨hR.sm,hR.ok,hR.lt,rfl,Nat.zero_le _,fun r hr=>by simp at hr,by rw [List.drop_zero];omega,by rw [List.drop_zero];omega⟩,by rw [List.drop_zero];omega,hR.len,fun a d h1 h2 h3=>hR.top a (hO.all a d h1 h2) h3⟩
theorem own_ge {w:World}{B e size n:Nat}{v:Value}{xs:List Value} (h:w.ownsRow 0 e size v n xs) (hb:∀ g,v.ownBlock=some g→B≤g):w.ownsRow B e size v n xs:=by
 refine ⟨h.1,?_⟩
 rcases h.2 with h0 | ⟨g,cap,cur,rfl,_,hr⟩
 ·exact .inl h0
 ·exact .inr ⟨g,cap,cur,rfl,hb g rfl,hr⟩
theorem tCells_int (l:List Nat):tCells l=iCells (l.map fun (n:Nat)=>(n:Int)):=by unfold tCells iCells;rw [List.map_map];rfl
theorem for_end {w7:World}{K c d b:Nat}{pl:Int}{ds:List Dc}{ns:List Nd}{lk:List Rt}{m:WM}{v:Nat→Value}{N:Nat} (h:WrV w7 (Xn (fun k=>k<K) c d) b pl (wRow ds ns lk m) v) (hN:N<K) {q0 q1 q2 q3:Value} (hk:w7.heap[N]? = some (.cells #[q0,q1,q2,q3] 43)) {u0 u1 u2 u3:Value} (e0:v 4=u0) (e1:v 5=u1) (e2:v 6=u2) (e3:v 7=u3) {w8:World}
  (hw:w8=(((w7.setCell ⟨N,0,none⟩ u0).setCell ⟨N,1,none⟩ u1).setCell ⟨N,2,none⟩ u2).setCell ⟨N,3,none⟩ u3) {w:World} (hb:Below N w w7) :
  w8.heap[N]? = some (.cells #[u0,u1,u2,u3] 43)∧CodeOwn w8 N u0 u1 u2 u3 ⟨m.s.ops,m.s.cells,m.nx.map (fun (r:Nat)=>(r:Int)),m.out.map (fun (r:Nat)=>(r:Int))⟩∧Below N w w8:=by
 have k8:∀ k,k≠N→w8.heap[k]? = w7.heap[k]?:=fun k hk=>by
  rw [hw,heap_setCell_other _ ⟨N,3,none⟩ k _ hk,heap_setCell_other _ ⟨N,2,none⟩ k _ hk,heap_setCell_other _ ⟨N,1,none⟩ k _ hk,heap_setCell_other _ ⟨N,0,none⟩ k _ hk]
 have hv:∀ i g,4≤i→(v i).ownBlock=some g→K≤g:=fun i g hi hg=>by
  have:=h.xv i g hi hg
  refine Nat.le_of_not_lt (fun hl=>this (.inl hl))
 have ho:∀ i,4≤i→w8.ownsRow N (wRow ds ns lk m i).ty (wRow ds ns lk m i).sz (v i) (wRow ds ns lk m i).n (wRow ds ns lk m i).xs:=fun i hi=>
  own_ge (own_eqb (h.rows i) (fun k hk=>k8 k (fun e=>by have:=hv i k hi hk;omega))) (fun g hg=>by have:=hv i g hi hg;omega)
 subst e0 e1 e2 e3
 refine ⟨?_,⟨ho 4 (by omega),ho 5 (by omega),?_,?_,?_⟩,?_⟩
 ·have h0:=heap_setCell_same _ N 0 _ _ (v 4) hk
  have h1:=heap_setCell_same _ N 1 _ _ (v 5) h0
  have h2:=heap_setCell_same _ N 2 _ _ (v 6) h1
  have h3:=heap_setCell_same _ N 3 _ _ (v 7) h2
  rw [hw,h3];rfl
 ·have:=ho 6 (by omega)
  simp only [wRow,tCells_int] at this
  rw [List.length_map];exact this
 ·have:=ho 7 (by omega)
  simp only [wRow,tCells_int] at this
  rw [List.length_map];exact this
 ·have hc:∀ i,i<4→codeV (v 4) (v 5) (v 6) (v 7) i=v (i+4):=fun i hi=>by
   match i,hi with
   | 0,_ | 1,_ | 2,_ | 3,_=>rfl
  intro i j hi hj hij g hg
  rw [hc i hi] at hg
  rw [hc j hj]
  exact h.apart _ _ g (by omega) hg
 ·rw [hw]
  exact (((hb.setCell (Nat.le_refl _) _).setCell (Nat.le_refl _) _).setCell (Nat.le_refl _) _).setCell (Nat.le_refl _) _
end Go.Proofs.YtmndgoapkmhglaaGreat
namespace Go.Proofs.YtmndgoapkmhglaaGreat
open Go.RowKit
attribute [local go_sem ↓] Go.wp_at_zero Go.wp_at_succ
theorem sets10 (W:World) (b q j:Nat) (v0 v1 v2 v3 v4 v5 v6 v7 v8 v9:Value) (h:q≠b):((((((((((W.setCell ⟨b,0,none⟩ v0).setCell ⟨b,1,none⟩ v1).setCell ⟨b,2,none⟩ v2).setCell ⟨b,3,none⟩ v3).setCell ⟨b,4,none⟩ v4).setCell ⟨b,5,none⟩ v5).setCell ⟨b,6,none⟩ v6).setCell ⟨b,7,none⟩ v7).setCell ⟨b,8,none⟩ v8).setCell ⟨b,9,none⟩ v9).cell? ⟨q,j,none⟩=W.cell? ⟨q,j,none⟩:=by
 have hk:∀ (W:World) (i:Nat) (v:Value),(W.setCell ⟨b,i,none⟩ v).cell? ⟨q,j,none⟩=W.cell? ⟨q,j,none⟩:=fun W i v=>World.cell?_setCell_other _ _ _ _ (fun e=>h (congrArg Addr.block e).symm)
 rw [hk,hk,hk,hk,hk,hk,hk,hk,hk,hk]
theorem zero_cells {W w3:World} (hb:Below W.heap.size W w3) {k:Nat} (h:W.heap[k]? = some (.cells #[.slice none 0 0,.slice none 0 0,.int .i64 0,.slice none 0 0,.slice none 0 0,.slice none 0 0,.slice none 0 0,.slice none 0 0,.slice none 0 0,.slice none 0 0] 103)) :
  w3.cell? ⟨k,0,none⟩=some (.slice none 0 0)∧w3.cell? ⟨k,1,none⟩=some (.slice none 0 0)∧w3.cell? ⟨k,2,none⟩=some (.int .i64 0)∧w3.cell? ⟨k,3,none⟩=some (.slice none 0 0)∧w3.cell? ⟨k,4,none⟩=some (.slice none 0 0)∧w3.cell? ⟨k,5,none⟩=some (.slice none 0 0)∧w3.cell? ⟨k,6,none⟩=some (.slice none 0 0)∧w3.cell? ⟨k,7,none⟩=some (.slice none 0 0)∧w3.cell? ⟨k,8,none⟩=some (.slice none 0 0)∧w3.cell? ⟨k,9,none⟩=some (.slice none 0 0)∧(∀ o,(w3.alloc o).cell? ⟨k,0,none⟩=some (.slice none 0 0))∧(∀ o,(w3.alloc o).cell? ⟨k,1,none⟩=some (.slice none 0 0))∧(∀ o,(w3.alloc o).cell? ⟨k,2,none⟩=some (.int .i64 0))∧(∀ o,(w3.alloc o).cell? ⟨k,3,none⟩=some (.slice none 0 0))∧(∀ o,(w3.alloc o).cell? ⟨k,4,none⟩=some (.slice none 0 0))∧(∀ o,(w3.alloc o).cell? ⟨k,5,none⟩=some (.slice none 0 0))∧(∀ o,(w3.alloc o).cell? ⟨k,6,none⟩=some (.slice none 0 0))∧(∀ o,(w3.alloc o).cell? ⟨k,7,none⟩=some (.slice none 0 0))∧(∀ o,(w3.alloc o).cell? ⟨k,8,none⟩=some (.slice none 0 0))∧(∀ o,(w3.alloc o).cell? ⟨k,9,none⟩=some (.slice none 0 0))∧(∀ j,w3.frozen? ⟨k,j,none⟩=false)∧(∀ o j,(w3.alloc o).frozen? ⟨k,j,none⟩=false)∧w3.heap[k]? = some (.cells #[.slice none 0 0,.slice none 0 0,.int .i64 0,.slice none 0 0,.slice none 0 0,.slice none 0 0,.slice none 0 0,.slice none 0 0,.slice none 0 0,.slice none 0 0] 103):=by
 have hk:w3.heap[k]? = some (.cells #[.slice none 0 0,.slice none 0 0,.int .i64 0,.slice none 0 0,.slice none 0 0,.slice none 0 0,.slice none 0 0,.slice none 0 0,.slice none 0 0,.slice none 0 0] 103):=(hb.block k (Array.getElem?_eq_some_iff.1 h).1).trans h
 have hka:∀ o,(w3.alloc o).heap[k]? = some (.cells #[.slice none 0 0,.slice none 0 0,.int .i64 0,.slice none 0 0,.slice none 0 0,.slice none 0 0,.slice none 0 0,.slice none 0 0,.slice none 0 0,.slice none 0 0] 103):=fun o=>(Below.heap_alloc w3 o k (Array.getElem?_eq_some_iff.1 hk).1).trans hk
 refine ⟨?_,?_,?_,?_,?_,?_,?_,?_,?_,?_,?_,?_,?_,?_,?_,?_,?_,?_,?_,?_,fun j=>frozen_of_row w3 k j _ _ hk,fun o j=>frozen_of_row _ k j _ _ (hka o),hk⟩ <;> first | (rw [cell_of_row w3 k _ _ _ _ hk];rfl) | (intro o;rw [cell_of_row _ k _ _ _ _ (hka o)];rfl)
set_option maxHeartbeats 4000000 in
set_option maxRecDepth 100000 in
theorem wfor_any (w:World) (q:Nat) (ds:List Dc) (ns:List Nd) (vd vn:Value) (h:ProgAt w q ds ns vd vn) (hwf:ProgWf ds ns) (pl:Int) (hll:(linksF ds ns).length≤1000) (hd16:ds.length≤16) (hbd:∀ n∈ns,n.kind=2→0≤n.decl) (rank:Nat→Nat) (hRk:Ranked ds (markAll ds ns 0 ds noM) rank)
  (ts:List Tk) (L:List Dl) (W:WKnow ts L ds ns) (hrt:linksF ds ns=routesR ts L) (hsp:Spell ts L 0) (h15:ts.length≤1501) :
  Calls Tryz.prog 27 #[.pointer (some ⟨q,0,none⟩),.int .i64 pl] w fun e w'=>∃ vO vC vN vU,e = .returned (.agg #[vO,vC,vN,vU])∧CodeOwn w' w.heap.size vO vC vN vU (codeW ts L ds pl (toPl pl (routesR ts L)) (orderF ds (markAll ds ns 0 ds noM)))∧OrdOk ds (markAll ds ns 0 ds noM) (orderF ds (markAll ds ns 0 ds noM))∧Below w.heap.size w w':=by
 have hdl:ds.length≤300:=by omega
 have HPG:Hid (∀ lk,lk=toPl pl (routesR ts L)→WPg ts ds ns lk):=hide (fun lk hlk=>⟨W.H.F,fun n hn hk=>⟨hbd n hn hk,(hwf.decl n hn hk).2⟩,by
  rw [hlk,← hrt]
  have:=List.length_filter_le (fun r=>((r.dst:Nat):Int) == pl) (linksF ds ns)
  unfold toPl
  omega,hwf.nl⟩)
 have HOR:=hide (fun Wd (hW:ProgAt Wd q ds ns vd vn)=>order_is Wd q ds ns vd vn hW hwf hbd hd16 rank hRk)
 obtain ⟨av,cv,rfl,hshd⟩:=own_shape h.decls
 obtain ⟨an,cn,rfl,hshn⟩:=own_shape h.nodes
 have HP:=hide h
 obtain ⟨w1,hw1⟩:∃ w1,w1=w.alloc (.cells #[.slice none 0 0,.slice none 0 0,.slice none 0 0,.slice none 0 0] 43):=⟨_,rfl⟩
 have hb1:Below w.heap.size w w1:=by rw [hw1];exact (Below.refl _ _).alloc (Nat.le_refl _) _
 have hP1:=h.below hb1
 obtain ⟨lk,hlk⟩:∃ lk,lk=toPl pl (linksF ds ns):=⟨_,rfl⟩
 have HAR:Hid (∀ W,Below w1.heap.size w1 W→Calls Tryz.prog 48 #[.pointer (some ⟨q,0,none⟩),.int .i64 pl] W fun e w'=>∃ a c,e = .returned (.slice a lk.length c)∧w'.ownsRow W.heap.size 111 3 (.slice a lk.length c) lk.length (rtCells lk)∧Below W.heap.size W w'∧Below w1.heap.size w1 w'∧w'.cell? ⟨q,0,none⟩=some (.slice av ds.length cv)∧w'.cell? ⟨q,1,none⟩=some (.slice an ns.length cn)∧(∀ o,(w'.alloc o).cell? ⟨q,0,none⟩=some (.slice av ds.length cv))∧(∀ o,(w'.alloc o).cell? ⟨q,1,none⟩=some (.slice an ns.length cn))∧(∀ o o',((w'.alloc o).alloc o').cell? ⟨q,0,none⟩=some (.slice av ds.length cv))∧(∀ o o',((w'.alloc o).alloc o').cell? ⟨q,1,none⟩=some (.slice an ns.length cn))):=hide (fun W hW=>by
  refine (arriving_any W q ds ns _ _ (hP1.below hW) hwf pl hll).mono ?_
  rintro e w' ⟨v,rfl,hown,hb⟩
  rw [← hlk] at hown
  obtain ⟨a,c,rfl,_⟩:=own_shape hown
  have hbb:=hW.trans (hb.mono hW.size)
  have ha:∀ o,Below w1.heap.size w1 (w'.alloc o):=fun o=>hbb.alloc hbb.size o
  have hab:∀ o o',Below w1.heap.size w1 ((w'.alloc o).alloc o'):=fun o o'=>(ha o).alloc (ha o).size o'
  exact ⟨a,c,rfl,hown,hb,hbb,(hP1.below hbb).c0,(hP1.below hbb).c1,fun o=>(hP1.below (ha o)).c0,fun o=>(hP1.below (ha o)).c1,fun o o'=>(hP1.below (hab o o')).c0,fun o o'=>(hP1.below (hab o o')).c1⟩)
 have hmk:=run_make_row' (P:=Tryz.prog) 34 3 (.int .i64 0) 8 Tryz.underlying34 Tryz.infoIntO rfl .i64 .i64 ds.length (by omega) (by omega)
 have x0:=hP1.c0
 have x1:=hP1.c1
 have xa0:∀ o,(w1.alloc o).cell? ⟨q,0,none⟩=some (.slice av ds.length cv):=fun o=>(hP1.below ((Below.refl _ _).alloc (Nat.le_refl _) o)).c0
 have xa1:∀ o,(w1.alloc o).cell? ⟨q,1,none⟩=some (.slice an ns.length cn):=fun o=>(hP1.below ((Below.refl _ _).alloc (Nat.le_refl _) o)).c1
 have xb0:∀ o o',((w1.alloc o).alloc o').cell? ⟨q,0,none⟩=some (.slice av ds.length cv):=fun o o'=>(hP1.below (((Below.refl _ _).alloc (Nat.le_refl _) o).alloc (by simp) o')).c0
 have xb1:∀ o o',((w1.alloc o).alloc o').cell? ⟨q,1,none⟩=some (.slice an ns.length cn):=fun o o'=>(hP1.below (((Below.refl _ _).alloc (Nat.le_refl _) o).alloc (by simp) o')).c1
 have hqb1:q≠w1.heap.size:=by have:=hP1.lt;omega
 have hqb2:q≠w1.heap.size+1:=by have:=hP1.lt;omega
 have hd0:Below w1.heap.size w1 w1.drew:=(Below.refl _ _).drew
 have hd1:∀ o,Below w1.heap.size w1 (w1.alloc o).drew:=fun o=>((Below.refl _ _).alloc (Nat.le_refl _) o).drew
 have hd2:∀ o o',Below w1.heap.size w1 ((w1.alloc o).alloc o').drew:=fun o o'=>(((Below.refl _ _).alloc (Nat.le_refl _) o).alloc (by simp) o').drew
 have y0:w1.drew.cell? ⟨q,0,none⟩=some (.slice av ds.length cv)∧w1.drew.cell? ⟨q,1,none⟩=some (.slice an ns.length cn):=⟨(hP1.below hd0).c0,(hP1.below hd0).c1⟩
 have y1:∀ o,(w1.alloc o).drew.cell? ⟨q,0,none⟩=some (.slice av ds.length cv)∧(w1.alloc o).drew.cell? ⟨q,1,none⟩=some (.slice an ns.length cn):=fun o=>⟨(hP1.below (hd1 o)).c0,(hP1.below (hd1 o)).c1⟩
 have y2:∀ o o',((w1.alloc o).alloc o').drew.cell? ⟨q,0,none⟩=some (.slice av ds.length cv)∧((w1.alloc o).alloc o').drew.cell? ⟨q,1,none⟩=some (.slice an ns.length cn):=fun o o'=>⟨(hP1.below (hd2 o o')).c0,(hP1.below (hd2 o o')).c1⟩
 have HY0:=hide y0
 have HY1:=hide y1
 have HY2:=hide y2
 clear y0 y1 y2
 have al1:∀ o,(w1.alloc o).drew.heap[w1.heap.size]? = some o:=fun o=>heap_alloc_new w1 o
 have al2:∀ o o',((w1.alloc o).alloc o').drew.heap[w1.heap.size]? = some o:=fun o o'=>(Below.heap_alloc (w1.alloc o) o' _ (by simp)).trans (heap_alloc_new w1 o)
 have al3:∀ o o',((w1.alloc o).alloc o').drew.heap[w1.heap.size+1]? = some o':=fun o o'=>by
  have:=heap_alloc_new (w1.alloc o) o'
  rw [World.size_alloc] at this
  exact this
 have HP1:=hide hP1
 have HB1:=hide hb1
 have HLK:=hide (hlk.trans (by rw [hrt]))
 have HWK:=hide W
 have HSP:=hide hsp
 clear h hshd hshn hb1 hP1 hlk W hsp hRk hbd hrt hwf
 go_enter Tryz.func27,Tryz.ntmps27
 go_upto_region 1 with fail
 rw [← hw1]
 have HW1:=hide hw1
 clear hw1
 go_cut [5] from 9 (fun s5 wx=>∃ b:Nat,s5 = .pointer (some ⟨b,0,none⟩)∧Wr wx (fun k=>k<w1.heap.size) b pl ds ns lk (mZero ds)∧Below w1.heap.size w1 wx)
 case first=>
  go_region_held3 (fun w'=>w'.cell? ⟨q,0,none⟩=some (.slice av ds.length cv)∧w'.cell? ⟨q,1,none⟩=some (.slice an ns.length cn)) (first | with_reducible exact HY0.out | with_reducible exact HY1.out _ | with_reducible exact HY2.out _ _ | with_reducible exact ⟨s0,s1⟩ | with_reducible exact ⟨s2 _,s3 _⟩ | with_reducible exact ⟨s4 _ _,s5 _ _⟩ | with_reducible exact ⟨(sets10 _ _ _ _ _ _ _ _ _ _ _ _ _ _ hqb1).trans s0,(sets10 _ _ _ _ _ _ _ _ _ _ _ _ _ _ hqb1).trans s1⟩ | with_reducible exact ⟨(sets10 _ _ _ _ _ _ _ _ _ _ _ _ _ _ hqb1).trans (s2 _),(sets10 _ _ _ _ _ _ _ _ _ _ _ _ _ _ hqb1).trans (s3 _)⟩ | with_reducible exact ⟨(sets10 _ _ _ _ _ _ _ _ _ _ _ _ _ _ hqb1).trans (s4 _ _),(sets10 _ _ _ _ _ _ _ _ _ _ _ _ _ _ hqb1).trans (s5 _ _)⟩ | with_reducible exact ⟨(sets10 _ _ _ _ _ _ _ _ _ _ _ _ _ _ hqb2).trans s0,(sets10 _ _ _ _ _ _ _ _ _ _ _ _ _ _ hqb2).trans s1⟩ | with_reducible exact ⟨(sets10 _ _ _ _ _ _ _ _ _ _ _ _ _ _ hqb2).trans (s2 _),(sets10 _ _ _ _ _ _ _ _ _ _ _ _ _ _ hqb2).trans (s3 _)⟩ | with_reducible exact ⟨(sets10 _ _ _ _ _ _ _ _ _ _ _ _ _ _ hqb2).trans (s4 _ _),(sets10 _ _ _ _ _ _ _ _ _ _ _ _ _ _ hqb2).trans (s5 _ _)⟩ | go_keep) ((go_at_call 48;refine (HAR.out _ ?_).mono ?_;(first | with_reducible exact hd0 | with_reducible exact hd1 _ | with_reducible exact hd2 _ _);rintro e w3 ⟨a3,c3,rfl,hown3,hb3,hbb,s0,s1,s2,s3,s4,s5⟩;(try ((first | with_reducible have hz:=zero_cells hb3 (k:=w1.heap.size) (al1 _) | with_reducible have hz:=zero_cells hb3 (k:=w1.heap.size) (al2 _ _));obtain ⟨t0,t1,t2,t3,t4,t5,t6,t7,t8,t9,t10,t11,t12,t13,t14,t15,t16,t17,t18,t19,tf,tg,th⟩:=hz));(try (with_reducible have hz:=zero_cells hb3 (k:=w1.heap.size+1) (al3 _ _);obtain ⟨r0,r1,r2,r3,r4,r5,r6,r7,r8,r9,r10,r11,r12,r13,r14,r15,r16,r17,r18,r19,rf,rg,rh⟩:=hz))))
  ·go_wp2_with fail
   go_meet
   exact ⟨_,rfl,startA HP1.out rfl hdl hbb hown3⟩
  ·go_wp2_with fail
   go_meet
   exact ⟨_,rfl,startB HP1.out rfl hdl hbb hown3⟩
  ·go_wp2_with fail
   go_meet
   exact ⟨_,rfl,startC HP1.out rfl hdl hbb rfl ⟨hb3.os,hb3.tape,hb3.output,hb3.size,hb3.block⟩ hown3⟩
  ·go_wp2_with fail
   go_meet
   exact ⟨_,rfl,startD HP1.out rfl hdl hbb rfl ⟨hb3.os,hb3.tape,hb3.output,hb3.size,hb3.block⟩ hown3⟩
  ·go_wp2_with fail
   go_meet
   exact ⟨_,rfl,startF HP1.out rfl hdl hbb rfl ⟨hb3.os,hb3.tape,hb3.output,hb3.size,hb3.block⟩ hown3⟩
  ·go_wp2_with fail
   go_meet
   exact ⟨_,rfl,startE HP1.out rfl hdl hbb rfl ⟨hb3.os,hb3.tape,hb3.output,hb3.size,hb3.block⟩ hown3⟩
 case rest=>
  obtain ⟨b,rfl,hWr,hbx⟩:=hcut
  have HWR:=hide hWr
  have HBX:=hide hbx
  obtain ⟨H,hH⟩:∃ H,H=markAll ds ns 0 ds noM:=⟨_,rfl⟩
  have HCALL:=hide (HOR.out wc (HP1.out.below hbx))
  clear hWr hbx HOR HAR xa0 xa1 xb0 xb1 x0 x1 al1 al2 al3 hd0 hd1 hd2 HY0 HY1 HY2 hmk hqb1 hqb2
  go_wp2_with fail
  refine HCALL.out.mono ?_
  rintro e w2 ⟨vT,T,rfl,hO,hTe,hownT,hb2⟩
  obtain ⟨aT,cT,rfl,hsT⟩:=own_shape hownT
  have HX2:=hide (HWR.out.box hb2)
  have HOWT:=hide hownT
  have HST:=hide hsT
  have HO:=hide hO
  have HTE:=hide hTe
  have HB2:=hide (HBX.out.trans (hb2.mono HBX.out.size))
  have HT3:=hO.len
  obtain ⟨S2,hS2⟩:∃ S2,S2=w2.heap.size:=⟨_,rfl⟩
  obtain ⟨Sc,hSc⟩:∃ Sc,Sc=wc.heap.size:=⟨_,rfl⟩
  rw [← hS2,← hSc] at HX2
  have HS2:=hide hS2
  have HSC:=hide hSc
  have HSS:Hid (w1.heap.size≤Sc):=hide (by rw [hSc];exact HBX.out.size)
  clear hO hTe hownT hsT hb2 HCALL hS2 hSc HWR HBX
  go_wp2
  go_loopw [26] (fun vj wr=>∃ j:Nat,j≤T.length∧vj = .int .i64 j∧Wr wr (Xn (fun k=>k<w1.heap.size) Sc S2) b pl ds ns lk (mOf (wRoots ts L ds pl lk (T.take j) (xZero ds)))∧Fr (Xn (fun k=>k<w1.heap.size) Sc S2) w2 wr) (fun vj _=>T.length - (intOf vj).toNat)
  case atStart=>exact ⟨0,Nat.zero_le _,rfl,HX2.out,Fr.refl _ _⟩
  case round=>
   obtain ⟨j,hj,rfl,hWr,hF⟩:=hrel
   have hb1r:Below w1.heap.size w1 wr:=HB2.out.trans (Fr.to_below (hF.mono (fun k hk=>.inl hk)))
   have HPR:=hide (HP1.out.below hb1r)
   have HWR:=hide hWr
   have HF:=hide hF
   by_cases hjl:j<T.length
   ·obtain ⟨gT,rfl,hgT1,hgT2⟩:=HST.out (by omega)
    obtain ⟨t,ht⟩:∃ t,t=T[j]'hjl:=⟨_,rfl⟩
    have htj:T[j]? = some t:=by rw [List.getElem?_eq_getElem hjl,ht]
    have ct:wr.cell? ⟨gT,j,none⟩=some (.int .i64 (t:Int)):=by
     rw [World.cell?_of_block (w:=w2) (a:=⟨gT,j,none⟩) (hF.block gT (.inr ⟨by rw [HSC.out];exact hgT1,by rw [HS2.out];exact hgT2⟩)),HOWT.out.cellAt j (by omega)]
     unfold tCells
     rw [List.getElem?_map,htj];rfl
    obtain ⟨d,hd,hk⟩:=HO.out.eqn t (List.mem_of_getElem? htj)
    obtain ⟨htl,htd⟩:=List.getElem?_eq_some_iff.1 hd
    obtain ⟨gd,cv',ed,_,hgd⟩:=HPR.out.decls.form (by omega)
    have ead:av=some ⟨gd,0,none⟩∧cv=cv':=by injection ed with h1 h2 h3;exact ⟨h1,h3⟩
    obtain ⟨rfl,rfl⟩:=ead
    obtain ⟨d0,d1,d2,d3,d4,d5,d6⟩:=dc_later HPR.out.decls (Below.refl _ _) hgd htl d htd.symm
    obtain ⟨z,hz⟩:=eq_at HWK.out hd hk
    have hpl:plAt ds (t:Int)=d.place:=by unfold plAt;rw [Int.toNat_natCast,List.getD_eq_getElem?_getD,hd];rfl
    have hro:rootAt ds (t:Int)=d.root:=by unfold rootAt;rw [Int.toNat_natCast,List.getD_eq_getElem?_getD,hd];rfl
    have p0:=HPR.out.c0
    have j1:(0:Int)≤(j:Int):=by omega
    have j2:(j:Int)<(T.length:Int):=by omega
    have t1:(0:Int)≤(t:Int):=by omega
    have t2:(t:Int)<(ds.length:Int):=by omega
    have HSN:Hid (wRoots ts L ds pl lk (T.take (j+1)) (xZero ds)=wStep ts L ds pl lk (wRoots ts L ds pl lk (T.take j) (xZero ds)) t):=hide (by rw [List.take_succ_eq_append_getElem hjl,wRoots_snoc,← ht])
    have hrsl:=(roots_inv HWK.out HLK.out HO.out j (by omega)).len
    by_cases hp:((d.place:Nat):Int)=pl
    ·have q1:((d.place:Int) == pl)=true:=by rw [hp];simp
     have hp':((plAt ds (t:Int):Nat):Int)=pl:=by rw [hpl];exact hp
     have hroom:=room_turn HWK.out HLK.out HO.out (by rw [HTE.out];exact ord_nodup _ _) HSP.out h15 hjl (z:=z) (by rw [← ht];exact hz) (by rw [← ht];exact hp')
     have hdlo:=dlOf_at hz.zat
     obtain ⟨x,hx⟩:∃ x,x=wRoots ts L ds pl lk (T.take j) (xZero ds):=⟨_,rfl⟩
     rw [← hx] at hroom HSN hrsl
     have HWR':Hid (Wr wr (Xn (fun k=>k<w1.heap.size) Sc S2) b pl ds ns lk (mOf x)):=hide (by rw [hx];exact HWR.out)
     have HIH:=hide (wexpr_any ts ds ns lk pl (HPG.out lk HLK.out) z.t (z.i+5) 0 (rootAt ds (t:Int)) hz.sp hz.nd wr _ b (mOf x) HWR'.out hrsl hroom)
     obtain ⟨y,hy⟩:∃ y,y=wExpr ((mOf x).env ts ds pl lk) z.t (z.i+5) 0 (rootAt ds (t:Int)) (mOf x).s:=⟨_,rfl⟩
     rw [← hy] at HIH
     rw [hro] at HIH
     have hyt:wTurn ts L ds pl lk x t=y:=by unfold wTurn;rw [hdlo,hy];rfl
     have HS3:Hid (wRoots ts L ds pl lk (T.take (j+1)) (xZero ds)=(y.1,x.2.set t y.2)):=hide (by rw [HSN.out];unfold wStep;rw [if_pos hp',hyt])
     have HRSL:=hide hrsl
     clear hWr hF hb1r ht htj hd hk htd hz hpl hro hp hp' hroom hdlo hx hy hyt HSN HWR hrsl ed
     go_wp2_with fail
     refine HIH.out.mono ?_
     rintro e w5 ⟨rfl,hw5,hf5⟩
     obtain ⟨v,hv⟩:=hw5
     obtain ⟨a8,c8,e8,hs8⟩:=own_shape (hv.rows 8)
     have hr8:x.2.length=ds.length:=HRSL.out
     obtain ⟨g8,rfl,_,hg8⟩:=hs8 (by show 0<x.2.length;omega)
     have e8':v 8 = .slice (some ⟨g8,0,none⟩) x.2.length c8:=e8
     have y8:w5.cell? ⟨b,8,none⟩=some (.slice (some ⟨g8,0,none⟩) x.2.length c8):=by rw [← e8'];exact hv.cell.2.2.2.2.2.2.2.2.1
     have hown8:w5.ownsRow 0 3 1 (.slice (some ⟨g8,0,none⟩) x.2.length c8) x.2.length (tCells x.2):=by rw [← e8'];exact hv.rows 8
     obtain ⟨ov,hov⟩:∃ ov,w5.cell? ⟨g8,t,none⟩=some ov:=by
      rw [hown8.cellAt t (by omega)]
      unfold tCells
      rw [List.getElem?_map,List.getElem?_eq_getElem (by omega)]
      exact ⟨_,rfl⟩
     have fz8:w5.frozen? ⟨g8,t,none⟩=false:=by
      rcases hown8.2 with ⟨e,_⟩ | ⟨g',c',cur,e,_,eh,_⟩
      ·cases e
      ·cases e;exact frozen_of_row w5 g8 t _ _ eh
     have t3:(t:Int)<(x.2.length:Int):=by omega
     have HFIN:=hide (hv.root (m:=(mOf x).st y.1) e8' t y.2)
     have HF5:=hide (HF.out.trans hf5)
     clear hv e8 e8' hs8 hown8 hf5 HIH hr8
     go_wp2
     go_roundw
     case rel=>exact ⟨j+1,by omega,by go_num,by rw [HS3.out];exact ⟨v,HFIN.out.1⟩,HF5.out.trans HFIN.out.2⟩
     case measure=>simp [intOf];omega
    ·have q1:((d.place:Int) == pl)=false:=by rw [beq_eq_false_iff_ne];exact hp
     have hp':¬ ((plAt ds (t:Int):Nat):Int)=pl:=by rw [hpl];exact hp
     have HS3:Hid (wRoots ts L ds pl lk (T.take (j+1)) (xZero ds)=wRoots ts L ds pl lk (T.take j) (xZero ds)):=hide (by rw [HSN.out];unfold wStep;rw [if_neg hp'])
     clear hWr hF hb1r ht htj hd hk htd hz hpl hro hp hp' HSN hrsl ed
     go_wp2
     go_roundw
     case rel=>exact ⟨j+1,by omega,by go_num,by rw [HS3.out];exact HWR.out,HF.out⟩
     case measure=>simp [intOf];omega
   ·have ej:j=T.length:=by omega
    subst ej
    have z9:¬ (T.length:Int)<(T.length:Int):=by omega
    rw [List.take_length] at hWr HWR
    obtain ⟨BO,BC,hBO,hBC,hNx,hlw,hrl,htop⟩:=next_pre HWK.out HLK.out HO.out (by rw [HTE.out];exact ord_nodup _ _) HSP.out h15
    obtain ⟨x,hx⟩:∃ x,x=rootsW ts L ds pl lk T:=⟨_,rfl⟩
    have HWR':Hid (Wr wr (Xn (fun k=>k<w1.heap.size) Sc S2) b pl ds ns lk (mOf x)):=hide (by rw [hx];exact HWR.out)
    rw [← hx] at hNx hlw hrl htop
    have HNEXT:=hide (wnext_any ts L ds ns lk pl HWK.out HLK.out (HPG.out lk HLK.out) BO BC hBO hBC wr _ b (mOf x) HWR'.out hrl rfl hNx htop (ts.length+1) hlw)
    obtain ⟨R,hR⟩:∃ R,R=wNext ((mOf x).env ts ds pl lk) (ts.length+1) 0 (mOf x).s []:=⟨_,rfl⟩
    rw [← hR] at HNEXT
    have HRN:Hid (nextW ts L ds pl lk T=R):=hide (by rw [hR,hx];rfl)
    have HXX:=hide hx
    have HOUT:=hide (fun Wd (hW:Wr Wd (Xn (fun k=>k<w1.heap.size) Sc S2) b pl ds ns lk (((mOf x).nxt R.1 R.2).outs []))=>wout_any Wd _ b pl ds ns lk ((mOf x).nxt R.1 R.2) hW hrl hdl)
    clear hWr hF hb1r hNx hlw hrl htop hx hR HWR
    go_wp2_with fail
    refine HNEXT.out.mono ?_
    rintro e w6 ⟨rfl,hw6,hf6⟩
    have HW6:=hide hw6
    have HF6:=hide (HF.out.trans hf6)
    clear hw6 hf6 HNEXT
    go_wp2_with fail
    refine (HOUT.out _ HW6.out).mono ?_
    rintro e w7 ⟨rfl,hw7,hf7⟩
    have hF7:=HF6.out.trans hf7
    obtain ⟨v,hv⟩:=hw7
    have hN1:w.heap.size<w1.heap.size:=by rw [HW1.out];simp
    have hkN:w7.heap[w.heap.size]? = some (.cells #[.slice none 0 0,.slice none 0 0,.slice none 0 0,.slice none 0 0] 43):=by
     rw [hF7.block _ (.inl hN1),HB2.out.block _ hN1,HW1.out]
     exact heap_alloc_new w _
    obtain ⟨a4,c4,e4,_⟩:=own_shape (hv.rows 4)
    obtain ⟨a5,c5,e5,_⟩:=own_shape (hv.rows 5)
    obtain ⟨a6,c6,e6,_⟩:=own_shape (hv.rows 6)
    obtain ⟨a7,c7,e7,_⟩:=own_shape (hv.rows 7)
    have y4:=hv.cell.2.2.2.2.1
    have y5:=hv.cell.2.2.2.2.2.1
    have y6:=hv.cell.2.2.2.2.2.2.1
    have y7:=hv.cell.2.2.2.2.2.2.2.1
    rw [e4] at y4
    rw [e5] at y5
    rw [e6] at y6
    rw [e7] at y7
    have z0:w7.cell? ⟨w.heap.size,0,none⟩=some (.slice none 0 0):=by rw [cell_of_row w7 _ 0 _ _ _ hkN];rfl
    have z1:w7.cell? ⟨w.heap.size,1,none⟩=some (.slice none 0 0):=by rw [cell_of_row w7 _ 1 _ _ _ hkN];rfl
    have z2:w7.cell? ⟨w.heap.size,2,none⟩=some (.slice none 0 0):=by rw [cell_of_row w7 _ 2 _ _ _ hkN];rfl
    have z3:w7.cell? ⟨w.heap.size,3,none⟩=some (.slice none 0 0):=by rw [cell_of_row w7 _ 3 _ _ _ hkN];rfl
    have fz:∀ i,w7.frozen? ⟨w.heap.size,i,none⟩=false:=fun i=>frozen_of_row w7 _ i _ _ hkN
    have hNb:w.heap.size≠b:=fun e=>hv.xb (.inl (by omega))
    have HV:=hide hv
    have HKN:=hide hkN
    have HE4:=hide e4
    have HE5:=hide e5
    have HE6:=hide e6
    have HE7:=hide e7
    have HF7:=hide hF7
    have HN1:=hide hN1
    clear hv e4 e5 e6 e7 hF7 hf7 HOUT HW6 hkN
    go_wp2
    obtain ⟨w8,hw8⟩:∃ w8,w8=(((w7.setCell ⟨w.heap.size,0,none⟩ (.slice a4 (wRow ds ns lk (((mOf x).nxt R.1 R.2).outs (outsW pl ((mOf x).nxt R.1 R.2).rs ds)) 4).n c4)).setCell ⟨w.heap.size,1,none⟩ (.slice a5 (wRow ds ns lk (((mOf x).nxt R.1 R.2).outs (outsW pl ((mOf x).nxt R.1 R.2).rs ds)) 5).n c5)).setCell ⟨w.heap.size,2,none⟩ (.slice a6 (wRow ds ns lk (((mOf x).nxt R.1 R.2).outs (outsW pl ((mOf x).nxt R.1 R.2).rs ds)) 6).n c6)).setCell ⟨w.heap.size,3,none⟩ (.slice a7 (wRow ds ns lk (((mOf x).nxt R.1 R.2).outs (outsW pl ((mOf x).nxt R.1 R.2).rs ds)) 7).n c7):=⟨_,rfl⟩
    have hbw:Below w.heap.size w w7:=by
     refine HB1.out.trans ?_
     refine Below.mono ?_ (Nat.le_of_lt HN1.out)
     exact HB2.out.trans (Fr.to_below (HF7.out.mono (fun k hk=>.inl hk)))
    obtain ⟨hk8,hco,hb8⟩:=for_end HV.out HN1.out HKN.out HE4.out HE5.out HE6.out HE7.out hw8 hbw
    rw [← hw8]
    have q0:w8.cell? ⟨w.heap.size,0,none⟩=some (.slice a4 (wRow ds ns lk (((mOf x).nxt R.1 R.2).outs (outsW pl ((mOf x).nxt R.1 R.2).rs ds)) 4).n c4):=by rw [cell_of_row w8 _ 0 _ _ _ hk8];rfl
    have q1:w8.cell? ⟨w.heap.size,1,none⟩=some (.slice a5 (wRow ds ns lk (((mOf x).nxt R.1 R.2).outs (outsW pl ((mOf x).nxt R.1 R.2).rs ds)) 5).n c5):=by rw [cell_of_row w8 _ 1 _ _ _ hk8];rfl
    have q2:w8.cell? ⟨w.heap.size,2,none⟩=some (.slice a6 (wRow ds ns lk (((mOf x).nxt R.1 R.2).outs (outsW pl ((mOf x).nxt R.1 R.2).rs ds)) 6).n c6):=by rw [cell_of_row w8 _ 2 _ _ _ hk8];rfl
    have q3:w8.cell? ⟨w.heap.size,3,none⟩=some (.slice a7 (wRow ds ns lk (((mOf x).nxt R.1 R.2).outs (outsW pl ((mOf x).nxt R.1 R.2).rs ds)) 7).n c7):=by rw [cell_of_row w8 _ 3 _ _ _ hk8];rfl
    clear hw8
    refine bodyPost_ret (v:=.agg #[.slice a4 (wRow ds ns lk (((mOf x).nxt R.1 R.2).outs (outsW pl ((mOf x).nxt R.1 R.2).rs ds)) 4).n c4,.slice a5 (wRow ds ns lk (((mOf x).nxt R.1 R.2).outs (outsW pl ((mOf x).nxt R.1 R.2).rs ds)) 5).n c5,.slice a6 (wRow ds ns lk (((mOf x).nxt R.1 R.2).outs (outsW pl ((mOf x).nxt R.1 R.2).rs ds)) 6).n c6,.slice a7 (wRow ds ns lk (((mOf x).nxt R.1 R.2).outs (outsW pl ((mOf x).nxt R.1 R.2).rs ds)) 7).n c7]) (by simp [results,Tryz.results27,go_sem,q0,q1,q2,q3]) rfl ?_
    refine ⟨_,_,_,_,rfl,?_,by rw [← HTE.out];exact HO.out,hb8⟩
    rw [← HLK.out,← HTE.out]
    have hcw:codeW ts L ds pl lk T=⟨R.1.ops,R.1.cells,R.2.map (fun (r:Nat)=>(r:Int)),(outsW pl x.2 ds).map (fun (r:Nat)=>(r:Int))⟩:=by
     unfold codeW
     rw [HRN.out,← HXX.out]
     congr 1
     unfold outsW
     rw [List.map_map];rfl
    rw [hcw]
    exact hco
end Go.Proofs.YtmndgoapkmhglaaGreat
