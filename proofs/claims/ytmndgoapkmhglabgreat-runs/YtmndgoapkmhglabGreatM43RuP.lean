import Derived.Test.YtmndgoapkmhglabGreatM13OrdB
import Derived.Test.YtmndgoapkmhglabGreatM18RefF
import Derived.Test.YtmndgoapkmhglabGreatM30RunX
import Derived.Test.YtmndgoapkmhglabGreatM32OpenT
import Derived.Test.YtmndgoapkmhglabGreatM36RefX
namespace Go.Proofs.YtmndgoapkmhglabGreat
open Go.RowKit
attribute [local go_sem ↓] Go.wp_at_zero Go.wp_at_succ
structure Beat (w0 w:World) (bq g gb N k:Nat) (X Y:Nat→Int):Prop where
 bel:Below w0.heap.size w0 w
 blk:w.heap[bq]? = some (.cells #[.int .i64 (k:Int),.slice (some ⟨g,0,none⟩) N N,.slice (some ⟨gb,0,none⟩) N N] 130)
 now:w.rowIs g 3 N (fun j=>.int .i64 (X j))
 bef:w0.rowIs gb 3 N (fun j=>.int .i64 (Y j))
 bq0:w0.heap.size≤bq
 g0:w0.heap.size≤g
 ne:g≠bq
theorem Beat.below {w0 w w':World}{bq g gb N k:Nat}{X Y:Nat→Int} (h:Beat w0 w bq g gb N k X Y) (hb:Below w.heap.size w w'):Beat w0 w' bq g gb N k X Y:=by
 have h1:bq<w.heap.size:=by
  have:=h.blk
  exact (Array.getElem?_eq_some_iff.1 this).1
 exact ⟨h.bel.trans (hb.mono h.bel.size),(hb.block _ h1).trans h.blk,h.now.of_block (hb.block _ (World.rowIs.lt h.now)),h.bef,h.bq0,h.g0,h.ne⟩
theorem Beat.set {w0 w:World}{bq g gb N k:Nat}{X Y:Nat→Int} (h:Beat w0 w bq g gb N k X Y) (i:Nat) (v:Int):Beat w0 (w.setCell ⟨g,i,none⟩ (.int .i64 v)) bq g gb N k (fun j=>if j=i then v else X j) Y:=by
 refine ⟨h.bel.setCell h.g0 _,(heap_setCell_other w ⟨g,i,none⟩ bq _ (Ne.symm h.ne)).trans h.blk,(h.now.set i _).congr (fun j _=>?_),h.bef,h.bq0,h.g0,h.ne⟩
 by_cases e:j=i
 ·simp [e]
 ·simp [e]
theorem Beat.drew {w0 w:World}{bq g gb N k:Nat}{X Y:Nat→Int} (h:Beat w0 w bq g gb N k X Y):Beat w0 w.drew bq g gb N k X Y:=
 ⟨h.bel.drew,h.blk,h.now.of_block rfl,h.bef,h.bq0,h.g0,h.ne⟩
theorem Beat.c0 {w0 w:World}{bq g gb N k:Nat}{X Y:Nat→Int} (h:Beat w0 w bq g gb N k X Y):w.cell? ⟨bq,0,none⟩=some (.int .i64 (k:Int)):=(cell_of_row w bq 0 _ _ _ h.blk).trans rfl
theorem Beat.c1 {w0 w:World}{bq g gb N k:Nat}{X Y:Nat→Int} (h:Beat w0 w bq g gb N k X Y):w.cell? ⟨bq,1,none⟩=some (.slice (some ⟨g,0,none⟩) N N):=(cell_of_row w bq 1 _ _ _ h.blk).trans rfl
theorem Beat.c2 {w0 w:World}{bq g gb N k:Nat}{X Y:Nat→Int} (h:Beat w0 w bq g gb N k X Y):w.cell? ⟨bq,2,none⟩=some (.slice (some ⟨gb,0,none⟩) N N):=(cell_of_row w bq 2 _ _ _ h.blk).trans rfl
theorem Beat.x {w0 w:World}{bq g gb N k:Nat}{X Y:Nat→Int} (h:Beat w0 w bq g gb N k X Y) {j:Nat} (hj:j<N):w.cell? ⟨g,j,none⟩=some (.int .i64 (X j)):=h.now.cell hj
theorem Beat.y {w0 w:World}{bq g gb N k:Nat}{X Y:Nat→Int} (h:Beat w0 w bq g gb N k X Y) {j:Nat} (hj:j<N):w.cell? ⟨gb,j,none⟩=some (.int .i64 (Y j)):=
 (h.bel.cell (p:=⟨gb,j,none⟩) (World.rowIs.lt h.bef)).trans (h.bef.cell hj)
theorem Beat.froz {w0 w:World}{bq g gb N k:Nat}{X Y:Nat→Int} (h:Beat w0 w bq g gb N k X Y) (j:Nat):w.frozen? ⟨g,j,none⟩=false:=h.now.frozen j
theorem Beat.alloc {w0 w:World}{bq g gb N k:Nat}{X Y:Nat→Int} (h:Beat w0 w bq g gb N k X Y) (o:Obj):Beat w0 (w.alloc o) bq g gb N k X Y:=h.below ((Below.refl _ _).alloc (Nat.le_refl _) o)
theorem dc_get {ds:List Dc}{b:Nat} (h:b<ds.length):kindAt ds (b:Int)=ds[b].kind∧numAt ds (b:Int)=ds[b].number∧rootAt ds (b:Int)=ds[b].root:=by
 unfold kindAt numAt rootAt
 rw [Int.toNat_natCast,List.getD_eq_getElem?_getD,List.getElem?_eq_getElem h]
 exact ⟨rfl,rfl,rfl⟩
set_option maxHeartbeats 2000000 in
set_option maxRecDepth 100000 in
theorem value_any (w0 w:World) (q:Nat) (ds:List Dc) (ns:List Nd) (vd vn vX:Value) (ins:List (List Int)) (h:ProgAt w0 q ds ns vd vn) (hwf:ProgWf ds ns) (hX:LsAt w0 vX ins)
  (hdc:∀ n∈ns,n.kind=2→0≤n.decl∧n.decl<(ds.length:Int)) (hrt:∀ d∈ds,d.kind≠0→d.root<ns.length)
  (bq g gb k:Nat) (X Y:Nat→Int) (hB:Beat w0 w bq g gb ns.length k X Y) (i:Nat) (hi:i<ns.length) :
  Calls Tryz.prog 93 #[.pointer (some ⟨q,0,none⟩),vX,.int .i64 (i:Int),.pointer (some ⟨bq,0,none⟩)] w fun e w'=>e = .returned (.int .i64 (valF ds ins ns[i] k X Y))∧Below w.heap.size w w':=by
 have c1:=(h.below hB.bel).c1
 obtain ⟨av,cap,rfl,hsh⟩:=own_shape h.decls
 obtain ⟨an,capn,rfl,hshn⟩:=own_shape h.nodes
 obtain ⟨gn,rfl,_,hgn⟩:=hshn (by omega)
 obtain ⟨n,hn⟩:∃ n,n=ns[i]'hi:=⟨_,rfl⟩
 have hnm:n∈ns:=by rw [hn];exact List.getElem_mem hi
 obtain ⟨y0,y1,y2,y3,y4,y5,y6,y7,y8,y9,y10⟩:=nd_later h.nodes hB.bel hgn hi n hn
 obtain ⟨pa,pb,pc⟩:=hwf.parts n hnm
 have hkd:=hwf.kind n hnm
 have j1:(0:Int)≤(i:Int):=by omega
 have j2:(i:Int)<(ns.length:Int):=by omega
 have a1:(0:Int)≤(n.a:Int):=by omega
 have a2:(n.a:Int)<(ns.length:Int):=by omega
 have b1:(0:Int)≤(n.b:Int):=by omega
 have b2:(n.b:Int)<(ns.length:Int):=by omega
 have e1:(0:Int)≤(n.c:Int):=by omega
 have e2:(n.c:Int)<(ns.length:Int):=by omega
 have d0:∀ o,(w.alloc o).cell? ⟨bq,0,none⟩=some (.int .i64 (k:Int)):=fun o=>(hB.alloc o).c0
 have d1:∀ o,(w.alloc o).cell? ⟨bq,1,none⟩=some (.slice (some ⟨g,0,none⟩) ns.length ns.length):=fun o=>(hB.alloc o).c1
 have d2:∀ o,(w.alloc o).cell? ⟨bq,2,none⟩=some (.slice (some ⟨gb,0,none⟩) ns.length ns.length):=fun o=>(hB.alloc o).c2
 have xa:∀ o,(w.alloc o).cell? ⟨g,n.a,none⟩=some (.int .i64 (X n.a)):=fun o=>(hB.alloc o).x pa
 have xb:∀ o,(w.alloc o).cell? ⟨g,n.b,none⟩=some (.int .i64 (X n.b)):=fun o=>(hB.alloc o).x pb
 have xc:∀ o,(w.alloc o).cell? ⟨g,n.c,none⟩=some (.int .i64 (X n.c)):=fun o=>(hB.alloc o).x pc
 have yb:∀ o,(w.alloc o).cell? ⟨gb,n.b,none⟩=some (.int .i64 (Y n.b)):=fun o=>(hB.alloc o).y pb
 rw [← hn]
 have HB:=hide hB
 have HP:=hide h
 have HX:=hide hX
 have HSH:=hide hsh
 have HRT:=hide hrt
 have no:∀ k:Nat,n.kind≠k→((n.kind:Int) == (k:Int))=false:=fun k h=>by rw [beq_eq_false_iff_ne];omega
 have hn2:=hdc n hnm
 clear hsh hshn hB h hX hn hdc hrt hnm
 by_cases k2:n.kind=2
 ·have q2:((n.kind:Int) == 2)=true:=by rw [k2];rfl
  obtain ⟨hd1,hd2⟩:=hn2 k2
  obtain ⟨b,hb⟩:∃ b:Nat,n.decl=(b:Int):=⟨n.decl.toNat,by omega⟩
  rw [hb] at y4
  have hbl:b<ds.length:=by omega
  obtain ⟨ga,rfl,_,hga⟩:=HSH.out (by omega)
  obtain ⟨d,hd⟩:∃ d,d=ds[b]'hbl:=⟨_,rfl⟩
  have hdm:d∈ds:=by rw [hd];exact List.getElem_mem hbl
  have hbel1:∀ o,Below w0.heap.size w0 (w.alloc o):=fun o=>(HB.out.alloc o).bel
  have x0:∀ o,(w.alloc o).cell? ⟨ga,b * 7,none⟩=some (.int .i64 (d.kind:Int)):=fun o=>(dc_later HP.out.decls (hbel1 o) hga hbl d hd).1
  have x1:∀ o,(w.alloc o).cell? ⟨ga,b * 7+1,none⟩=some (.int .i64 (d.number:Int)):=fun o=>(dc_later HP.out.decls (hbel1 o) hga hbl d hd).2.1
  have x2:∀ o,(w.alloc o).cell? ⟨ga,b * 7+2,none⟩=some (.string d.name):=fun o=>(dc_later HP.out.decls (hbel1 o) hga hbl d hd).2.2.1
  have x3:∀ o,(w.alloc o).cell? ⟨ga,b * 7+3,none⟩=some (.int .i64 (d.pos:Int)):=fun o=>(dc_later HP.out.decls (hbel1 o) hga hbl d hd).2.2.2.1
  have x4:∀ o,(w.alloc o).cell? ⟨ga,b * 7+4,none⟩=some (.int .i64 (d.place:Int)):=fun o=>(dc_later HP.out.decls (hbel1 o) hga hbl d hd).2.2.2.2.1
  have x5:∀ o,(w.alloc o).cell? ⟨ga,b * 7+5,none⟩=some (.int .i64 (d.root:Int)):=fun o=>(dc_later HP.out.decls (hbel1 o) hga hbl d hd).2.2.2.2.2.1
  have x6:∀ o,(w.alloc o).cell? ⟨ga,b * 7+6,none⟩=some (.int .i64 (d.fin:Int)):=fun o=>(dc_later HP.out.decls (hbel1 o) hga hbl d hd).2.2.2.2.2.2
  have p0:∀ o,(w.alloc o).cell? ⟨q,0,none⟩=some (.slice (some ⟨ga,0,none⟩) ds.length cap):=fun o=>(HP.out.below (hbel1 o)).c0
  have hbel2:∀ o o',Below w0.heap.size w0 ((w.alloc o).alloc o'):=fun o o'=>((HB.out.alloc o).alloc o').bel
  have x0':∀ o o',((w.alloc o).alloc o').cell? ⟨ga,b * 7,none⟩=some (.int .i64 (d.kind:Int)):=fun o o'=>(dc_later HP.out.decls (hbel2 o o') hga hbl d hd).1
  have x1':∀ o o',((w.alloc o).alloc o').cell? ⟨ga,b * 7+1,none⟩=some (.int .i64 (d.number:Int)):=fun o o'=>(dc_later HP.out.decls (hbel2 o o') hga hbl d hd).2.1
  have x2':∀ o o',((w.alloc o).alloc o').cell? ⟨ga,b * 7+2,none⟩=some (.string d.name):=fun o o'=>(dc_later HP.out.decls (hbel2 o o') hga hbl d hd).2.2.1
  have x3':∀ o o',((w.alloc o).alloc o').cell? ⟨ga,b * 7+3,none⟩=some (.int .i64 (d.pos:Int)):=fun o o'=>(dc_later HP.out.decls (hbel2 o o') hga hbl d hd).2.2.2.1
  have x4':∀ o o',((w.alloc o).alloc o').cell? ⟨ga,b * 7+4,none⟩=some (.int .i64 (d.place:Int)):=fun o o'=>(dc_later HP.out.decls (hbel2 o o') hga hbl d hd).2.2.2.2.1
  have x5':∀ o o',((w.alloc o).alloc o').cell? ⟨ga,b * 7+5,none⟩=some (.int .i64 (d.root:Int)):=fun o o'=>(dc_later HP.out.decls (hbel2 o o') hga hbl d hd).2.2.2.2.2.1
  have x6':∀ o o',((w.alloc o).alloc o').cell? ⟨ga,b * 7+6,none⟩=some (.int .i64 (d.fin:Int)):=fun o o'=>(dc_later HP.out.decls (hbel2 o o') hga hbl d hd).2.2.2.2.2.2
  have p0':∀ o o',((w.alloc o).alloc o').cell? ⟨q,0,none⟩=some (.slice (some ⟨ga,0,none⟩) ds.length cap):=fun o o'=>(HP.out.below (hbel2 o o')).c0
  have z4:∀ o',((w.alloc (.cells #[.int .i64 (n.kind:Int),.int .i64 (n.pos:Int),.int .i64 (n.value:Int),.string n.name,.int .i64 (b:Int),.int .i64 (n.op:Int),.int .i64 (n.a:Int),.int .i64 (n.b:Int),.int .i64 (n.c:Int),.bool n.delayed,.bool n.behind] 161)).alloc o').cell? ⟨w.heap.size,4,none⟩=some (.int .i64 (b:Int)):=fun o'=>(World.cell?_alloc_past _ _ _ (by simp)).trans ((World.cell?_alloc_at _ _ _ _ rfl).trans rfl)
  have t1:(0:Int)≤(b:Int):=by omega
  have t2:(b:Int)<(ds.length:Int):=by omega
  obtain ⟨g1,g2,g3⟩:=dc_get hbl
  rw [← hd] at g1 g2 g3
  have hv:valF ds ins n k X Y=nameF ds ins (b:Int) k X:=by unfold valF;rw [if_pos k2,hb]
  have d0':∀ o o',((w.alloc o).alloc o').cell? ⟨bq,0,none⟩=some (.int .i64 (k:Int)):=fun o o'=>((HB.out.alloc o).alloc o').c0
  have d1':∀ o o',((w.alloc o).alloc o').cell? ⟨bq,1,none⟩=some (.slice (some ⟨g,0,none⟩) ns.length ns.length):=fun o o'=>((HB.out.alloc o).alloc o').c1
  by_cases hk0:d.kind=0
  ·have q0:((d.kind:Int) == 0)=true:=by rw [hk0];rfl
   have HF:Hid (valF ds ins n k X Y=elemF ins d.number k):=hide (by rw [hv];unfold nameF;rw [g1,if_pos hk0,g2])
   have HE:=hide (fun W hW=>element_any W vX ins hW d.number k)
   clear k2 hn2 hv g1 g2 g3 hd hdm hk0 no hb hd1 hd2
   go_enter Tryz.func93,Tryz.ntmps93
   go_wp2_with fail
   go_big_region
   go_wp2_with fail
   go_region_held3 (fun w'=>w'.cell? ⟨bq,0,none⟩=some (.int .i64 (k:Int))∧w'.cell? ⟨w.heap.size+1,1,none⟩=some (.int .i64 (d.number:Int))) (go_keep) ((go_at_call 111;refine (HE.out _ (by first | exact HX.out.below ((HB.out.alloc _).alloc _).drew.bel | exact HX.out.below ((HB.out.alloc _).alloc _).drew.drew.bel)).mono ?_;rintro e w3 ⟨rfl,hw3⟩;subst hw3))
   rename_i hHeld
   clear hHeld
   go_wp2
   go_ret
   exact ⟨by rw [HF.out];rfl,by first | exact (((Below.refl _ _).alloc (Nat.le_refl _) _).alloc (by simp) _).drew | exact (((Below.refl _ _).alloc (Nat.le_refl _) _).alloc (by simp) _).drew.drew⟩
  ·have q0:((d.kind:Int) == 0)=false:=by rw [beq_eq_false_iff_ne];omega
   have hrl:=HRT.out d hdm hk0
   have HF:Hid (valF ds ins n k X Y=X d.root):=hide (by rw [hv];unfold nameF;rw [g1,if_neg hk0,g3])
   have xr:∀ o o',((w.alloc o).alloc o').cell? ⟨g,d.root,none⟩=some (.int .i64 (X d.root)):=fun o o'=>((HB.out.alloc o).alloc o').x hrl
   have r1:(0:Int)≤(d.root:Int):=by omega
   have r2:(d.root:Int)<(ns.length:Int):=by omega
   clear k2 hn2 hv g1 g2 g3 hd hdm hk0 no hb hd1 hd2
   go_enter Tryz.func93,Tryz.ntmps93
   go_wp2_with fail
   go_big_region
   go_wp2_with fail
   go_big_region
   go_wp2
   go_ret
   exact ⟨by rw [HF.out];rfl,by first | exact (((Below.refl _ _).alloc (Nat.le_refl _) _).alloc (by simp) _).drew | exact (((Below.refl _ _).alloc (Nat.le_refl _) _).alloc (by simp) _).drew.drew⟩
 have q2:((n.kind:Int) == 2)=false:=no 2 k2
 by_cases k3:n.kind=3
 ·have q3:((n.kind:Int) == 3)=true:=by rw [k3];rfl
  have HF:Hid (valF ds ins n k X Y=b2i (decide (X n.a=0))):=hide (by unfold valF;rw [if_neg k2,if_pos k3])
  have HN:=hide (fun W=>rknot_any W (X n.a))
  clear k2 k3 hn2 no
  go_enter Tryz.func93,Tryz.ntmps93
  go_wp2_with fail
  go_region_held3 (fun w'=>w'.cell? ⟨bq,1,none⟩=some (.slice (some ⟨g,0,none⟩) ns.length ns.length)∧w'.cell? ⟨w.heap.size,6,none⟩=some (.int .i64 (n.a:Int))∧w'.cell? ⟨g,n.a,none⟩=some (.int .i64 (X n.a))) (go_keep) ((go_at_call 112;refine (HN.out _).mono ?_;rintro e w3 ⟨rfl,hw3⟩;subst hw3))
  rename_i hHeld
  clear hHeld
  go_wp2
  go_ret
  exact ⟨by rw [HF.out];rfl,by first | exact below_drewN ((Below.refl _ _).alloc (Nat.le_refl _) _) _ | exact ((Below.refl _ _).alloc (Nat.le_refl _) _).drew⟩
 have q3:((n.kind:Int) == 3)=false:=no 3 k3
 by_cases k4:n.kind=4
 ·have q4:((n.kind:Int) == 4)=true:=by rw [k4];rfl
  have HF:Hid (valF ds ins n k X Y=choF (X n.a) (X n.b) (X n.c)):=hide (by unfold valF choF;rw [if_neg k2,if_neg k3,if_pos k4])
  have HN:=hide (fun W=>choose_any W (X n.a) (X n.b) (X n.c))
  clear k2 k3 k4 hn2 no
  go_enter Tryz.func93,Tryz.ntmps93
  go_wp2_with fail
  go_region_held3 (fun w'=>w'.cell? ⟨bq,1,none⟩=some (.slice (some ⟨g,0,none⟩) ns.length ns.length)∧w'.cell? ⟨w.heap.size,6,none⟩=some (.int .i64 (n.a:Int))∧w'.cell? ⟨w.heap.size,7,none⟩=some (.int .i64 (n.b:Int))∧w'.cell? ⟨w.heap.size,8,none⟩=some (.int .i64 (n.c:Int))∧w'.cell? ⟨g,n.a,none⟩=some (.int .i64 (X n.a))∧w'.cell? ⟨g,n.b,none⟩=some (.int .i64 (X n.b))∧w'.cell? ⟨g,n.c,none⟩=some (.int .i64 (X n.c))) (go_keep) ((go_at_call 113;refine (HN.out _).mono ?_;rintro e w3 ⟨rfl,hw3⟩;subst hw3))
  rename_i hHeld
  clear hHeld
  go_wp2
  go_ret
  exact ⟨by rw [HF.out];rfl,by first | exact below_drewN ((Below.refl _ _).alloc (Nat.le_refl _) _) _ | exact ((Below.refl _ _).alloc (Nat.le_refl _) _).drew⟩
 have q4:((n.kind:Int) == 4)=false:=no 4 k4
 by_cases k5:n.kind=5
 ·have q5:((n.kind:Int) == 5)=true:=by rw [k5];rfl
  by_cases hk0:k=0
  ·have q6:((k:Int) == 0)=true:=by rw [hk0];rfl
   have HF:Hid (valF ds ins n k X Y=X n.a):=hide (by unfold valF;rw [if_neg k2,if_neg k3,if_neg k4,if_pos k5,if_pos hk0])
   clear k2 k3 k4 k5 hn2 no hk0
   go_enter Tryz.func93,Tryz.ntmps93
   go_wp2_with fail
   go_quiet (fail)
   go_wp2
   go_ret
   exact ⟨by rw [HF.out];rfl,by first | exact below_drewN ((Below.refl _ _).alloc (Nat.le_refl _) _) _ | exact ((Below.refl _ _).alloc (Nat.le_refl _) _).drew⟩
  ·have q6:((k:Int) == 0)=false:=by rw [beq_eq_false_iff_ne];omega
   have HF:Hid (valF ds ins n k X Y=Y n.b):=hide (by unfold valF;rw [if_neg k2,if_neg k3,if_neg k4,if_pos k5,if_neg hk0])
   clear k2 k3 k4 k5 hn2 no hk0
   go_enter Tryz.func93,Tryz.ntmps93
   go_wp2_with fail
   go_quiet (fail)
   go_wp2
   go_ret
   exact ⟨by rw [HF.out];rfl,by first | exact below_drewN ((Below.refl _ _).alloc (Nat.le_refl _) _) _ | exact ((Below.refl _ _).alloc (Nat.le_refl _) _).drew⟩
 have q5:((n.kind:Int) == 5)=false:=no 5 k5
 by_cases k6:n.kind=6
 ·have q6:((n.kind:Int) == 6)=true:=by rw [k6];rfl
  have HF:Hid (valF ds ins n k X Y=pairF n.op (X n.a) (X n.b)):=hide (by unfold valF;rw [if_neg k2,if_neg k3,if_neg k4,if_neg k5,if_pos k6])
  have HN:=hide (fun W=>pair_any n.op W (X n.a) (X n.b))
  clear k2 k3 k4 k5 k6 hn2 no
  go_enter Tryz.func93,Tryz.ntmps93
  go_wp2_with fail
  go_region_held3 (fun w'=>w'.cell? ⟨bq,1,none⟩=some (.slice (some ⟨g,0,none⟩) ns.length ns.length)∧w'.cell? ⟨w.heap.size,5,none⟩=some (.int .i64 (n.op:Int))∧w'.cell? ⟨w.heap.size,6,none⟩=some (.int .i64 (n.a:Int))∧w'.cell? ⟨w.heap.size,7,none⟩=some (.int .i64 (n.b:Int))∧w'.cell? ⟨g,n.a,none⟩=some (.int .i64 (X n.a))∧w'.cell? ⟨g,n.b,none⟩=some (.int .i64 (X n.b))) (go_keep) ((go_at_call 114;refine (HN.out _).mono ?_;rintro e w3 ⟨rfl,hw3⟩;subst hw3))
  rename_i hHeld
  clear hHeld
  go_wp2
  go_ret
  exact ⟨by rw [HF.out];rfl,by first | exact below_drewN ((Below.refl _ _).alloc (Nat.le_refl _) _) _ | exact ((Below.refl _ _).alloc (Nat.le_refl _) _).drew⟩
 ·have q6:((n.kind:Int) == 6)=false:=no 6 k6
  have HF:Hid (valF ds ins n k X Y=(n.value:Int)):=hide (by unfold valF;rw [if_neg k2,if_neg k3,if_neg k4,if_neg k5,if_neg k6])
  clear k2 k3 k4 k5 k6 hn2 no
  go_enter Tryz.func93,Tryz.ntmps93
  go_wp2
  go_ret
  exact ⟨by rw [HF.out];rfl,(Below.refl _ _).alloc (Nat.le_refl _) _⟩
theorem val_congr {ds:List Dc}{ins:List (List Int)}{n:Nd}{k:Nat}{X X' Y Y':Nat→Int} (h1:∀ c∈needs n,X c=X' c) (h2:n.kind=2→kindAt ds n.decl≠0→X (rootAt ds n.decl)=X' (rootAt ds n.decl)) (h3:n.kind=5→k≠0→Y n.b=Y' n.b) :
  valF ds ins n k X Y=valF ds ins n k X' Y':=by
 unfold valF
 by_cases k2:n.kind=2
 ·rw [if_pos k2,if_pos k2]
  unfold nameF
  by_cases hk:kindAt ds n.decl=0
  ·rw [if_pos hk,if_pos hk]
  ·rw [if_neg hk,if_neg hk,h2 k2 hk]
 rw [if_neg k2,if_neg k2]
 by_cases k3:n.kind=3
 ·rw [if_pos k3,if_pos k3,h1 n.a (by simp [needs,k3])]
 rw [if_neg k3,if_neg k3]
 by_cases k4:n.kind=4
 ·rw [if_pos k4,if_pos k4,h1 n.a (by simp [needs,k4]),h1 n.b (by simp [needs,k4]),h1 n.c (by simp [needs,k4])]
 rw [if_neg k4,if_neg k4]
 by_cases k5:n.kind=5
 ·rw [if_pos k5,if_pos k5]
  by_cases hk:k=0
  ·rw [if_pos hk,if_pos hk,h1 n.a (by simp [needs,k5])]
  ·rw [if_neg hk,if_neg hk,h3 k5 hk]
 rw [if_neg k5,if_neg k5]
 by_cases k6:n.kind=6
 ·rw [if_pos k6,if_pos k6,h1 n.a (by simp [needs,k6]),h1 n.b (by simp [needs,k6])]
 rw [if_neg k6,if_neg k6]
structure DoneT (ds:List Dc) (ns:List Nd) (V:Nat→Int) (T:List Nat) (j:Nat) (X:Nat→Int):Prop where
 all:∀ t∈T.take j,∀ d,ds[t]? = some d→∀ i,d.root≤i→i<d.fin→dlAt ns i=false→X i=V i
theorem DoneT.set {ds:List Dc}{ns:List Nd}{V:Nat→Int}{T:List Nat}{j:Nat}{X:Nat→Int} (h:DoneT ds ns V T j X) (i:Nat):DoneT ds ns V T j (fun c=>if c=i then V i else X c):=by
 refine ⟨fun t ht d hd c h1 h2 h3=>?_⟩
 by_cases e:c=i
 ·simp [e]
 ·simp only [if_neg e];exact h.all t ht d hd c h1 h2 h3
theorem turn_val {ds:List Dc}{ns:List Nd}{ins:List (List Int)}{NV:Nat→Nat→Int}{T:List Nat} (hM:Meant ds ns ins NV) (hO:OrdOk ds (markAll ds ns 0 ds noM) T) {k j t:Nat}{X Y:Nat→Int} (hD:DoneT ds ns (NV k) T j X)
  (hY:k≠0→∀ c,c<ns.length→Y c=NV (k - 1) c) (hpb:∀ n∈ns,n.b<ns.length) (ht:T[j]? = some t) {d:Dc} (hd:ds[t]? = some d) {i:Nat} (hi:i<ns.length) (h1:d.root≤i) (h2:i<d.fin)
  (hl:(ns[i]'hi).delayed=false) (hin:∀ c,i<c→c<d.fin→dlAt ns c=false→X c=NV k c):valF ds ins (ns[i]'hi) k X Y=NV k i:=by
 have hn:ns[i]? = some (ns[i]'hi):=List.getElem?_eq_getElem hi
 obtain ⟨d',hd',hk⟩:=hO.eqn t (List.mem_of_getElem? ht)
 rw [hd] at hd'
 cases hd'
 rw [hM.val i _ hn k]
 refine val_congr (fun c hc=>?_) (fun k2 hq=>?_) (fun k5 h0=>hY h0 _ (hpb _ (List.getElem_mem hi)))
 ·obtain ⟨g1,g2,g3⟩:=hM.kids t d hd hk i _ hn h1 h2 c hc
  exact hin c g1 g2 (by rw [g3];exact hl)
 ·have hm:=hM.hang t d hd hk i _ hn h1 h2 k2 hl hq
  obtain ⟨dd1,dd2⟩:=hM.decl _ (List.getElem_mem hi) k2
  have hlt:(ns[i]'hi).decl.toNat<ds.length:=by omega
  have hdb:ds[(ns[i]'hi).decl.toNat]? = some (ds[(ns[i]'hi).decl.toNat]'hlt):=List.getElem?_eq_getElem hlt
  have e1:kindAt ds (ns[i]'hi).decl=(ds[(ns[i]'hi).decl.toNat]'hlt).kind:=by unfold kindAt;rw [List.getD_eq_getElem?_getD,hdb];rfl
  have e2:rootAt ds (ns[i]'hi).decl=(ds[(ns[i]'hi).decl.toNat]'hlt).root:=by unfold rootAt;rw [List.getD_eq_getElem?_getD,hdb];rfl
  rw [e1] at hq
  rw [e2]
  have hmem:=hO.topo j t ht _ hm
  obtain ⟨_,r2⟩:=hM.root _ _ hdb hq
  obtain ⟨s1,s2⟩:=hM.segs _ _ hdb hq
  exact hD.all _ hmem _ hdb _ (Nat.le_refl _) s1 r2
theorem late_val {ds:List Dc}{ns:List Nd}{ins:List (List Int)}{NV:Nat→Nat→Int} (hM:Meant ds ns ins NV) {k:Nat}{X Y:Nat→Int}
  (hY:k≠0→∀ c,c<ns.length→Y c=NV (k - 1) c) (hpb:∀ n∈ns,n.b<ns.length) {i:Nat} (hi:i<ns.length) (hp:∀ c,c<ns.length→dlAt ns c=false→X c=NV k c) (hq:∀ c,i<c→c<ns.length→X c=NV k c):valF ds ins (ns[i]'hi) k X Y=NV k i:=by
 have hn:ns[i]? = some (ns[i]'hi):=List.getElem?_eq_getElem hi
 obtain ⟨a,d,hd,hk,h1,h2⟩:=hM.cover i hi
 rw [hM.val i _ hn k]
 refine val_congr (fun c hc=>?_) (fun k2 hz=>?_) (fun k5 h0=>hY h0 _ (hpb _ (List.getElem_mem hi)))
 ·obtain ⟨g1,g2,g3⟩:=hM.kids a d hd hk i _ hn h1 h2 c hc
  have:=(hM.segs a d hd hk).2
  exact hq c g1 (by omega)
 ·obtain ⟨dd1,dd2⟩:=hM.decl _ (List.getElem_mem hi) k2
  have hlt:(ns[i]'hi).decl.toNat<ds.length:=by omega
  have hdb:ds[(ns[i]'hi).decl.toNat]? = some (ds[(ns[i]'hi).decl.toNat]'hlt):=List.getElem?_eq_getElem hlt
  have e1:kindAt ds (ns[i]'hi).decl=(ds[(ns[i]'hi).decl.toNat]'hlt).kind:=by unfold kindAt;rw [List.getD_eq_getElem?_getD,hdb];rfl
  have e2:rootAt ds (ns[i]'hi).decl=(ds[(ns[i]'hi).decl.toNat]'hlt).root:=by unfold rootAt;rw [List.getD_eq_getElem?_getD,hdb];rfl
  rw [e1] at hz
  rw [e2]
  obtain ⟨r1,r2⟩:=hM.root _ _ hdb hz
  exact hp _ r1 r2
def dcBlk (d:Dc):Obj:=.cells #[.int .i64 (d.kind:Int),.int .i64 (d.number:Int),.string d.name,.int .i64 (d.pos:Int),.int .i64 (d.place:Int),.int .i64 (d.root:Int),.int .i64 (d.fin:Int)] 90
set_option maxHeartbeats 2000000 in
set_option maxRecDepth 100000 in
theorem fill_any (w0 w:World) (q:Nat) (ds:List Dc) (ns:List Nd) (vd vn vX vT:Value) (ins:List (List Int)) (NV:Nat→Nat→Int) (T:List Nat) (h:ProgAt w0 q ds ns vd vn) (hwf:ProgWf ds ns) (hX:LsAt w0 vX ins) (hT:RowAt w0 vT (T.map fun (t:Nat)=>(t:Int)))
  (hM:Meant ds ns ins NV) (hO:OrdOk ds (markAll ds ns 0 ds noM) T) (bq g gb k:Nat) (X0 Y:Nat→Int) (hB:Beat w0 w bq g gb ns.length k X0 Y) (hY:k≠0→∀ c,c<ns.length→Y c=NV (k - 1) c) :
  Calls Tryz.prog 62 #[.pointer (some ⟨q,0,none⟩),vX,vT,.pointer (some ⟨bq,0,none⟩)] w fun e w'=>e = .returned (.tuple #[])∧∃ X,Beat w0 w' bq g gb ns.length k X Y∧∀ i,i<ns.length→X i=NV k i:=by
 have hnl:=hwf.nl
 have HV:=hide (fun W X hW i hi=>value_any w0 W q ds ns vd vn vX ins h hwf hX hM.decl (fun d hd hk=>by obtain ⟨a,ha,rfl⟩:=List.getElem_of_mem hd;exact (hM.root a _ (List.getElem?_eq_getElem ha) hk).1) bq g gb k X Y hW i hi)
 have hpb:∀ n∈ns,n.b<ns.length:=fun n hn=>(hwf.parts n hn).2.1
 have hTr:=hT
 obtain ⟨AT,CT,rfl,hTm,hTc⟩:=hT
 rw [List.length_map] at *
 obtain ⟨av,cap,rfl,hsh⟩:=own_shape h.decls
 obtain ⟨an,capn,rfl,hshn⟩:=own_shape h.nodes
 have HTC:=hide hTc
 have HSH:=hide hsh
 have HSHN:=hide hshn
 have HP:=hide h
 have HM:=hide hM
 have HO:=hide hO
 have HY:=hide hY
 have HB:=hide hB
 have HPB:=hide hpb
 clear h hsh hwf hshn hX hTc hM hO hY hB hTr hpb
 go_enter Tryz.func62,Tryz.ntmps62
 go_wp2
 go_loopw [15] (fun vj wr=>∃ (j:Nat) (X:Nat→Int),j≤T.length∧vj = .int .i64 j∧Beat w0 wr bq g gb ns.length k X Y∧DoneT ds ns (NV k) T j X) (fun vj _=>T.length - (intOf vj).toNat)
 case atStart=>exact ⟨0,X0,Nat.zero_le _,rfl,HB.out,⟨fun t ht=>by simp at ht⟩⟩
 case round=>
  clear HB
  obtain ⟨j,X,hj,rfl,hB,hD⟩:=hrel
  by_cases hjl:j<T.length
  ·obtain ⟨bT,oT,rfl,hbT,hcT⟩:=HTC.out (by first | omega | (rw [List.length_map];omega))
   obtain ⟨t,ht⟩:∃ t,t=T[j]'hjl:=⟨_,rfl⟩
   have htj:T[j]? = some t:=by rw [List.getElem?_eq_getElem hjl,ht]
   have ct:wr.cell? ⟨bT,oT+j,none⟩=some (.int .i64 (t:Int)):=by
    have:=hcT j (by first | omega | (rw [List.length_map];omega))
    rw [List.getElem_map] at this
    rw [ht]
    exact (hB.bel.cell (p:=⟨bT,oT+j,none⟩) hbT).trans this
   obtain ⟨d,hd,hk⟩:=HO.out.eqn t (List.mem_of_getElem? htj)
   obtain ⟨htl,htd⟩:=List.getElem?_eq_some_iff.1 hd
   obtain ⟨ga,rfl,_,hga⟩:=HSH.out (by omega)
   obtain ⟨x0,x1,x2,x3,x4,x5,x6⟩:=dc_later HP.out.decls hB.bel hga htl d htd.symm
   obtain ⟨s1,s2⟩:=HM.out.segs t d hd hk
   have p0:=(HP.out.below hB.bel).c0
   have j1:(0:Int)≤(j:Int):=by omega
   have j2:(j:Int)<(T.length:Int):=by omega
   have t1:(0:Int)≤(t:Int):=by omega
   have t2:(t:Int)<(ds.length:Int):=by omega
   have HB:=hide hB
   have HD:=hide hD
   have HHD:=hide hd
   have HTJ:=hide htj
   obtain ⟨dq,hdq0⟩:∃ dq,dq=wr.heap.size:=⟨_,rfl⟩
   have hdq:g≠dq:=by have:=World.rowIs.lt hB.now;omega
   have HDQ:=hide hdq0
   clear hB hD ht htd hd htj hcT hdq0
   go_wp2
   go_loopw [11] (fun vi wx=>∃ (m:Nat) (X2:Nat→Int),d.root≤m∧m≤d.fin∧vi = .int .i64 ((m:Int) - 1)∧Beat w0 wx bq g gb ns.length k X2 Y∧DoneT ds ns (NV k) T j X2∧(∀ c,m≤c→c<d.fin→dlAt ns c=false→X2 c=NV k c)∧wx.heap[dq]? = some (dcBlk d)) (fun vi _=>(intOf vi+1).toNat)
   case atStart=>exact ⟨d.fin,X,by omega,Nat.le_refl _,by go_num,HB.out.alloc _,HD.out,fun c h1 h2=>by omega,by rw [HDQ.out];exact heap_alloc_new _ _⟩
   case round=>
    clear HB x0 x1 x2 x3 x4 x5 x6 p0 ct
    obtain ⟨m,X2,hm1,hm2,rfl,hB,hD,hI,hq⟩:=hrel
    have z5:wr.cell? ⟨dq,5,none⟩=some (.int .i64 (d.root:Int)):=(cell_of_row wr _ 5 _ _ _ hq).trans rfl
    rw [HDQ.out] at z5
    by_cases hmr:d.root<m
    ·obtain ⟨i,rfl⟩:∃ i,m=i+1:=⟨m - 1,by omega⟩
     have hil:i<ns.length:=by omega
     obtain ⟨gn,rfl,_,hgn⟩:=HSHN.out (by omega)
     obtain ⟨n,hn⟩:∃ n,n=ns[i]'hil:=⟨_,rfl⟩
     have p1:=(HP.out.below hB.bel).c1
     have y9:=(nd_later HP.out.nodes hB.bel hgn hil n hn).2.2.2.2.2.2.2.2.2.1
     have i1:(0:Int)≤(i:Int):=by omega
     have i2:(i:Int)<(ns.length:Int):=by omega
     have ei:((i+1:Nat):Int) - 1=(i:Int):=by omega
     have i3:(i:Int) ≥ (d.root:Int):=by omega
     rw [ei]
     have hdl:dlAt ns i=n.delayed:=by unfold dlAt;rw [List.getElem?_eq_getElem hil,← hn];rfl
     have HB:=hide hB
     have HD:=hide hD
     have HI:=hide hI
     have HQ:=hide hq
     have HDL:=hide hdl
     have HN:=hide hn
     clear hB hD hI hq hdl hn ei
     by_cases hde:n.delayed=true
     ·go_wp2
      go_roundw
      case rel=>
       refine ⟨i,X2,by omega,by omega,by go_num,HB.out,HD.out,fun c h1 h2 h3=>?_,HQ.out⟩
       rcases Nat.eq_or_lt_of_le h1 with rfl | h'
       ·rw [HDL.out,hde] at h3;cases h3
       ·exact HI.out c h' h2 h3
      case measure=>simp [intOf]
     ·have hde':n.delayed=false:=by simpa using hde
      have d1:=HB.out.c1
      have xi:=HB.out.x hil
      have fi:=HB.out.froz i
      clear hde
      have hgb:=HB.out.ne
      have gl:g<wr.heap.size:=World.rowIs.lt HB.out.now
      have bl:bq<wr.heap.size:=(Array.getElem?_eq_some_iff.1 HB.out.blk).1
      go_wp2_with fail
      go_region_held3 (fun w'=>w'.cell? ⟨bq,1,none⟩=some (.slice (some ⟨g,0,none⟩) ns.length ns.length)) (first | go_keep | exact (World.cell?_setCell_other _ _ _ _ (by intro e;exact hgb (congrArg Addr.block e))).trans s1 | exact (World.cell?_setCell_other _ _ _ _ (by intro e;exact hgb (congrArg Addr.block e).symm)).trans s1) ((go_at_call 93;refine (HV.out _ X2 (by first | exact HB.out.drew | exact HB.out) i hil).mono ?_;rintro e w3 ⟨rfl,hb3⟩;have s1:=(hb3.cell (p:=⟨bq,1,none⟩) (by simpa using bl)).trans d1;have s2:=(hb3.cell (p:=⟨g,i,none⟩) (by simpa using gl)).trans xi;have s3:=(hb3.frozen (p:=⟨g,i,none⟩) (by simpa using gl)).trans fi))
      rename_i hHeld
      clear hHeld
      have hv:valF ds ins ns[i] k X2 Y=NV k i:=turn_val HM.out HO.out HD.out HY.out HPB.out HTJ.out HHD.out hil (by omega) (by omega) (by rw [← HN.out];exact hde') (fun c h1 h2 h3=>HI.out c h1 h2 h3)
      rw [hv]
      have HB3:=hide ((HB.out.drew).below hb3)
      have HBF:=hide hb3
      clear hv hb3 s1 s2 s3
      go_wp2
      go_roundw
      case rel=>
       refine ⟨i,fun c=>if c=i then NV k i else X2 c,by omega,by omega,by go_num,by first | exact HB3.out.set i _ | exact (HB3.out.set i _).drew,HD.out.set i,fun c h1 h2 h3=>?_,?_⟩
       ·by_cases e:c=i
        ·simp [e]
        ·simp only [if_neg e];exact HI.out c (by omega) h2 h3
       ·have h6:dq<wr.heap.size:=(Array.getElem?_eq_some_iff.1 HQ.out).1
        have h7:w3.heap[dq]? = wr.heap[dq]?:=HBF.out.block dq (by simpa using h6)
        exact (heap_setCell_other w3 ⟨g,i,none⟩ dq _ (Ne.symm hdq)).trans (h7.trans HQ.out)
      case measure=>simp [intOf]
    ·have em:m=d.root:=by omega
     subst em
     have z6:¬ ((d.root:Int) - 1 ≥ (d.root:Int)):=by omega
     have HB:=hide hB
     have HD:=hide hD
     have HI:=hide hI
     clear hB hD hI hq
     go_wp2
     go_roundw
     case rel=>
      refine ⟨j+1,X2,by omega,by go_num,HB.out,⟨fun u hu e he c h1 h2 h3=>?_⟩⟩
      rw [List.take_add_one,HTJ.out] at hu
      rcases List.mem_append.1 hu with hu | hu
      ·exact HD.out.all u hu e he c h1 h2 h3
      ·have eu:u=t:=by simpa using hu
       subst eu
       rw [HHD.out] at he
       cases he
       exact HI.out c h1 h2 h3
     case measure=>simp [intOf];omega
  ·have ej:j=T.length:=by omega
   subst ej
   have hdone:∀ c,c<ns.length→dlAt ns c=false→X c=NV k c:=fun c hc hl=>by
    obtain ⟨a,d,hd,hk,h1,h2⟩:=HM.out.cover c hc
    exact hD.all a (by rw [List.take_length];exact HO.out.all a d hd hk) d hd c h1 h2 hl
   have p1:=(HP.out.below hB.bel).c1
   have HB:=hide hB
   have HDONE:=hide hdone
   clear hB hD hdone
   go_wp2
   go_loopw [12] (fun vi wx=>∃ (m:Nat) (X2:Nat→Int),m≤ns.length∧vi = .int .i64 ((m:Int) - 1)∧Beat w0 wx bq g gb ns.length k X2 Y∧(∀ c,c<ns.length→dlAt ns c=false→X2 c=NV k c)∧(∀ c,m≤c→c<ns.length→X2 c=NV k c)) (fun vi _=>(intOf vi+1).toNat)
   case atStart=>exact ⟨ns.length,X,Nat.le_refl _,by go_num,HB.out,HDONE.out,fun c h1 h2=>by omega⟩
   case round=>
    clear HB HDONE p1
    obtain ⟨m,X2,hm,rfl,hB,hp,hq⟩:=hrel
    by_cases hm0:0<m
    ·obtain ⟨i,rfl⟩:∃ i,m=i+1:=⟨m - 1,by omega⟩
     have hil:i<ns.length:=by omega
     obtain ⟨gn,rfl,_,hgn⟩:=HSHN.out (by omega)
     obtain ⟨n,hn⟩:∃ n,n=ns[i]'hil:=⟨_,rfl⟩
     have p1:=(HP.out.below hB.bel).c1
     have y9:=(nd_later HP.out.nodes hB.bel hgn hil n hn).2.2.2.2.2.2.2.2.2.1
     have i1:(0:Int)≤(i:Int):=by omega
     have i2:(i:Int)<(ns.length:Int):=by omega
     have ei:((i+1:Nat):Int) - 1=(i:Int):=by omega
     have i3:(i:Int) ≥ 0:=by omega
     rw [ei]
     have hdl:dlAt ns i=n.delayed:=by unfold dlAt;rw [List.getElem?_eq_getElem hil,← hn];rfl
     have HB:=hide hB
     have HPP:=hide hp
     have HQQ:=hide hq
     have HDL:=hide hdl
     have HN:=hide hn
     clear hB hp hq hdl hn ei
     by_cases hde:n.delayed=true
     ·have d1:=HB.out.c1
      have xi:=HB.out.x hil
      have fi:=HB.out.froz i
      have hgb:=HB.out.ne
      have gl:g<wr.heap.size:=World.rowIs.lt HB.out.now
      have bl:bq<wr.heap.size:=(Array.getElem?_eq_some_iff.1 HB.out.blk).1
      go_wp2_with fail
      go_region_held3 (fun w'=>w'.cell? ⟨bq,1,none⟩=some (.slice (some ⟨g,0,none⟩) ns.length ns.length)) (first | go_keep | exact (World.cell?_setCell_other _ _ _ _ (by intro e;exact hgb (congrArg Addr.block e))).trans s1 | exact (World.cell?_setCell_other _ _ _ _ (by intro e;exact hgb (congrArg Addr.block e).symm)).trans s1) ((go_at_call 93;refine (HV.out _ X2 (by first | exact HB.out.drew | exact HB.out) i hil).mono ?_;rintro e w3 ⟨rfl,hb3⟩;have s1:=(hb3.cell (p:=⟨bq,1,none⟩) (by simpa using bl)).trans d1;have s2:=(hb3.cell (p:=⟨g,i,none⟩) (by simpa using gl)).trans xi;have s3:=(hb3.frozen (p:=⟨g,i,none⟩) (by simpa using gl)).trans fi))
      rename_i hHeld
      clear hHeld
      have hv:valF ds ins ns[i] k X2 Y=NV k i:=late_val HM.out HY.out HPB.out hil HPP.out (fun c h1 h2=>HQQ.out c h1 h2)
      rw [hv]
      have HB3:=hide ((HB.out.drew).below hb3)
      clear hv hb3 s1 s2 s3
      go_wp2
      go_roundw
      case rel=>
       refine ⟨i,fun c=>if c=i then NV k i else X2 c,by omega,by go_num,by first | exact HB3.out.set i _ | exact (HB3.out.set i _).drew,fun c h1 h2=>?_,fun c h1 h2=>?_⟩
       ·by_cases e:c=i
        ·simp [e]
        ·simp only [if_neg e];exact HPP.out c h1 h2
       ·by_cases e:c=i
        ·simp [e]
        ·simp only [if_neg e];exact HQQ.out c (by omega) h2
      case measure=>simp [intOf]
     ·have hde':n.delayed=false:=by simpa using hde
      have HDE:=hide hde'
      clear hde
      go_wp2
      go_roundw
      case rel=>
       refine ⟨i,X2,by omega,by go_num,HB.out,HPP.out,fun c h1 h2=>?_⟩
       rcases Nat.eq_or_lt_of_le h1 with rfl | h'
       ·exact HPP.out i hil (by rw [HDL.out];exact HDE.out)
       ·exact HQQ.out c h' h2
      case measure=>simp [intOf]
    ·have em:m=0:=by omega
     subst em
     have z6:¬ (((0:Nat):Int) - 1 ≥ 0):=by omega
     have HB:=hide hB
     have HQQ:=hide hq
     clear hB hp hq
     go_wp2
     go_end0
     exact ⟨rfl,X2,HB.out,fun i hi=>HQQ.out i (Nat.zero_le _) hi⟩
theorem ready_any (w:World) (g r n ch cd:Nat) (H D:Nat→Bool) (hg:w.rowIs g 4 n (fun j=>.bool (H j))) (hr:w.rowIs r 4 n (fun j=>.bool (D j))) (hn:n≤1501) :
  Calls Tryz.prog 92 #[.slice (some ⟨g,0,none⟩) n ch,.slice (some ⟨r,0,none⟩) n cd] w fun e w'=>e = .returned (.bool (decide (∀ j,j<n→H j=true→D j=true)))∧w=w':=by
 go_enter Tryz.func92,Tryz.ntmps92
 go_wp2
 go_loopw [9] (fun vi wr=>∃ i:Nat,i≤n∧vi = .int .i64 i∧w=wr∧∀ j,j<i→H j=true→D j=true) (fun vi _=>n - (intOf vi).toNat)
 case atStart=>exact ⟨0,Nat.zero_le _,rfl,rfl,fun j hj=>by omega⟩
 case round=>
  obtain ⟨i,hi,rfl,rfl,hall⟩:=hrel
  by_cases hlt:i<n
  ·have x1:=hg.cell hlt
   have x2:=hr.cell hlt
   have j1:(0:Int)≤(i:Int):=by omega
   have j2:(i:Int)<(n:Int):=by omega
   have HALL:=hide hall
   clear hall
   by_cases hh:H i=true
   ·by_cases hd:D i=true
    ·go_wp2
     go_roundw
     case rel=>exact ⟨i+1,by omega,by go_num,by first | rfl | trivial,fun j hj h=>by rcases Nat.lt_succ_iff_lt_or_eq.1 hj with h' | rfl;exact HALL.out j h' h;exact hd⟩
     case measure=>simp [intOf];omega
    ·have hd':D i=false:=by simpa using hd
     have HF:Hid (decide (∀ j,j<n→H j=true→D j=true)=false):=hide (by rw [decide_eq_false_iff_not];exact fun h=>hd (h i hlt hh))
     clear hd
     go_wp2
     go_ret
     exact ⟨by rw [HF.out];rfl,rfl⟩
   ·have hh':H i=false:=by simpa using hh
    have HNO:=hide hh
    clear hh
    go_wp2
    go_roundw
    case rel=>exact ⟨i+1,by omega,by go_num,by first | rfl | trivial,fun j hj h=>by rcases Nat.lt_succ_iff_lt_or_eq.1 hj with h' | rfl;exact HALL.out j h' h;exact absurd h HNO.out⟩
    case measure=>simp [intOf];omega
  ·have HF:Hid (decide (∀ j,j<n→H j=true→D j=true)=true):=hide (by rw [decide_eq_true_iff];exact fun j hj=>hall j (by omega))
   clear hall
   go_wp2
   go_ret
   exact ⟨by rw [HF.out];rfl,rfl⟩
end Go.Proofs.YtmndgoapkmhglabGreat
namespace Go.Proofs.YtmndgoapkmhglabGreat
theorem read_zero {ts:List Tk}{L:List Dl} (h:(readR ts L).1=0):manyR ts L=none∧namesR ts L=none∧typesR ts L=none∧cycR ts L=none∧lpR ts L=none:=by
 unfold readR at h
 cases h1:manyR ts L with
 | some a=>rw [h1] at h;cases h
 | none=>
  cases h2:namesR ts L with
  | some a=>rw [h1,h2] at h;cases h
  | none=>
   cases h3:typesR ts L with
   | some a=>rw [h1,h2,h3] at h;cases h
   | none=>
    cases h4:cycR ts L with
    | some a=>rw [h1,h2,h3,h4] at h;cases h
    | none=>
     cases h5:lpR ts L with
     | some a=>rw [h1,h2,h3,h4,h5] at h;cases h
     | none=>exact ⟨rfl,rfl,rfl,rfl,rfl⟩
theorem text_small {s:ByteArray} (h:(textF s).1≠1):s.size≤1500:=by
 by_cases hs:1500<s.size
 ·unfold textF at h;rw [if_pos hs] at h;exact absurd rfl h
 ·omega
theorem rok_of {s:ByteArray}{L:List Dl} (hs:s.size≤1500) (h:Spell (toks s) L 0):ROk (toks s) L:=
 ⟨toks_F s,toks_end s,(toks_ok s hs).1,(toks_ok s hs).pos,h⟩
theorem good_text {s:ByteArray} (h:(textF s).1=0):∃ L,RGood s L∧Right (toks s) L∧ROk (toks s) L:=by
 have hs:=text_small (s:=s) (by omega)
 rcases text_read s hs with ⟨k,_,ht,_⟩ | ⟨L,hsp,_,ht,hp⟩
 ·rw [ht] at h;cases h
 ·rw [ht] at h
  obtain ⟨h1,h2,h3,h4,h5⟩:=read_zero h
  exact ⟨L,⟨h1,h2,h3,h4,h5,hsp,hp⟩,right_of (toks_F s) hsp h1 h2 h4,rok_of hs hsp⟩
theorem routeTo_few (ts:List Tk) (L:List Dl) (b:Nat) (x:Dl):∀ k,(routeTo ts L b x k).length≤k:=by
 intro k
 induction k with
 | zero=>simp [routeTo]
 | succ k ih=>
  simp only [routeTo,List.length_append]
  have:(routeAt ts L b x k).length≤1:=by unfold routeAt;split <;> simp
  omega
theorem routes_few (ts:List Tk) (L:List Dl):(routesR ts L).length≤4 * (eqL L).length:=by
 have:∀ (l:List Dl) b,(routesFrom ts L b l).length≤4 * l.length:=by
  intro l
  induction l with
  | nil=>intro b;simp [routesFrom]
  | cons x r ih=>
   intro b
   simp only [routesFrom,List.length_append,List.length_cons]
   have h1:=routeTo_few ts L b x 4
   have h2:=ih (b+1)
   omega
 exact this _ _
theorem past_vl (ts:List Tk) (L:List Dl) (ins:List (List Int)) (sc:List OpF):∀ i,i≤sc.length→∀ x∈pastI (netR ts L) (valsR ts L ins) sc i,x.2.vals.length≤(eqL L).length:=by
 intro i
 induction i with
 | zero=>intro _ x hx;simp [pastI,runG] at hx
 | succ i ih=>
  intro hi x hx
  rw [past_succ _ _ sc (by omega)] at hx
  rcases List.mem_append.1 hx with hx | hx
  ·exact ih (by omega) x hx
  ·rw [List.mem_singleton] at hx
   rw [hx]
   have hv:∀ k n,(valsR ts L ins k n).length≤(eqL L).length:=fun k n=>by
    unfold valsR atR
    rw [List.length_map]
    exact atG_len _ _ _ _
   unfold wakeF
   simp only []
   split
   ·simp
   ·split
    ·exact hv _ _
    ·simp
end Go.Proofs.YtmndgoapkmhglabGreat
