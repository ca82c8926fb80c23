import Derived.Test.YtmndgoapkmhglaaGreatM47LawH
import Derived.Test.YtmndgoapkmhglaaGreatM48CdF
namespace Go.Proofs.YtmndgoapkmhglaaGreat
open Go.RowKit
attribute [local go_sem ↓] Go.wp_at_zero Go.wp_at_succ
def codeV (vO vC vN vU:Value):Nat→Value
 | 0=>vO
 | 1=>vC
 | 2=>vN
 | _=>vU
structure CodeOwn (w:World) (B:Nat) (vO vC vN vU:Value) (c:CdF):Prop where
 ops:w.ownsRow B 79 4 vO c.ops.length (opCells c.ops)
 cells:w.ownsRow B 3 1 vC c.cells.length (iCells c.cells)
 next:w.ownsRow B 3 1 vN c.next.length (iCells c.next)
 out:w.ownsRow B 3 1 vU c.out.length (iCells c.out)
 apart:∀ i j,i<4→j<4→i≠j→∀ g,(codeV vO vC vN vU i).ownBlock=some g→(codeV vO vC vN vU j).ownBlock≠some g
theorem CodeOwn.blk {w:World}{B:Nat}{vO vC vN vU:Value}{c:CdF} (h:CodeOwn w B vO vC vN vU c):∀ i,i<4→∀ g,(codeV vO vC vN vU i).ownBlock=some g→B≤g∧g<w.heap.size:=by
 intro i hi g hg
 match i,hi,hg with
 | 0,_,hg=>exact h.ops.lt g hg
 | 1,_,hg=>exact h.cells.lt g hg
 | 2,_,hg=>exact h.next.lt g hg
 | 3,_,hg=>exact h.out.lt g hg
theorem CodeOwn.keep {w w':World}{B:Nat}{vO vC vN vU:Value}{c:CdF} (h:CodeOwn w B vO vC vN vU c) (hb:Below w.heap.size w w'):CodeOwn w' B vO vC vN vU c:=
 ⟨bel_own h.ops hb,bel_own h.cells hb,bel_own h.next hb,bel_own h.out hb,h.apart⟩
theorem OpsAt_own {w:World}{B:Nat}{v:Value}{l:List OpF} (h:w.ownsRow B 79 4 v l.length (opCells l)) (hl:l.length≤1500):OpsAt w v l:=by
 rcases h.2 with ⟨rfl,h0⟩ | ⟨g,cap,cur,rfl,hb,hg,h1,h2,h3,h4⟩
 ·exact ⟨none,0,by rw [h0],by omega,fun hp=>by omega⟩
 ·refine ⟨_,_,rfl,by omega,fun hp=>⟨g,0,rfl,(Array.getElem?_eq_some_iff.1 hg).1,fun i hi=>?_⟩⟩
  obtain ⟨g0,g1,g2,g3⟩:=opCells_get l i hi
  simp only [Nat.zero_add]
  exact ⟨(h.cellAt _ (by omega)).trans g0,(h.cellAt _ (by omega)).trans g1,(h.cellAt _ (by omega)).trans g2,(h.cellAt _ (by omega)).trans g3⟩
theorem CodeOwn.at {w:World}{B:Nat}{vO vC vN vU:Value}{c:CdF} (h:CodeOwn w B vO vC vN vU c) (h1:c.ops.length≤1500) (h2:c.cells.length≤1500) (h3:c.next.length≤1500) (h4:c.out.length≤1500):CodeAt w vO vC vN vU c:=
 ⟨OpsAt_own h.ops h1,own_rowN h.cells (by omega) rfl,own_rowN h.next (by omega) rfl,own_rowN h.out (by omega) rfl⟩
theorem Owning.next1 {w3 w4 w5 wz w6:World}{m k B:Nat}{RV:Nat→Value}{os:List OwnV}{vO vO':Value}{o:OwnV} (h:Owning w3 w4 m k RV os vO) (hkm:k<m) (hB:∀ i,i<m→∀ b,(RV i).ownBlock=some b→B≤b∧b<w3.heap.size)
  (hap:∀ i j,i<m→j<m→i≠j→∀ b,(RV i).ownBlock=some b→(RV j).ownBlock≠some b) (ho:OwnAt w5 (fun b=>(RV k).ownBlock=some b∨w4.heap.size≤b) o) (hg:w4.grownBy w5 (RV k).ownBlock)
  (hz:Below w5.heap.size w5 wz) (hg6:wz.grownBy w6 vO.ownBlock) (hat:vO'.ownBlock=vO.ownBlock∨∃ b,vO'.ownBlock=some b∧w5.heap.size≤b) (hown:w6.ownsRow w3.heap.size 36 5 vO' (k+1) (ownCells (os ++ [o]))) :
  Owning w3 w6 m (k+1) RV (os ++ [o]) vO':=by
 have s5:=hg.size
 have s6:=hg6.size
 have sz:=hz.size
 have hs:=h.size
 have blkO:∀ b,vO.ownBlock=some b→w3.heap.size≤b∧b<w4.heap.size:=fun b hb=>h.own.lt b hb
 have step5:∀ b,b<w5.heap.size→vO.ownBlock≠some b→w6.heap[b]? = w5.heap[b]?:=fun b hb h1=>by
  rw [hg6.block b (by omega) (Ne.symm h1),hz.block b hb]
 have step:∀ b,b<w4.heap.size→vO.ownBlock≠some b→(RV k).ownBlock≠some b→w6.heap[b]? = w4.heap[b]?:=fun b hb h1 h2=>by
  rw [step5 b (by omega) h1,hg.block b hb (Ne.symm h2)]
 refine ⟨hg6.os.trans (hz.os.trans (hg.os.trans h.o1)),hg6.tape.trans (hz.tape.trans (hg.tape.trans h.o2)),hg6.output.trans (hz.output.trans (hg.output.trans h.o3)),by omega,fun b hb hl=>?_,by rw [List.length_append,h.len];rfl,hown,fun x hx=>?_⟩
 ·rw [step b (by omega) (fun e=>by have:=(blkO b e).1;omega) (hl k (by omega))]
  exact h.fr b hb (fun l hl'=>hl l (by omega))
 ·rcases List.mem_append.1 hx with hx | hx
  ·refine (h.all x hx).keep (by omega) (fun b hb hK=>⟨fun e=>?_,fun l hl hlm=>hK.2 l (by omega) hlm⟩) (fun b hb hK c hc=>?_)
   ·rcases hat with hat | ⟨b',hat,hb'⟩
    ·rw [hat] at e;exact hK.1 e
    ·rw [hat] at e;cases e;omega
   ·rw [World.cell?_of_block (w:=w4) (a:=⟨b,c,none⟩) (step b hb hK.1 (hK.2 k (Nat.le_refl _) hkm))];exact hc
  ·rw [List.mem_singleton] at hx
   subst hx
   have hne:∀ b,b<w5.heap.size→((RV k).ownBlock=some b∨w4.heap.size≤b)→vO.ownBlock≠some b:=fun b hb hK e=>by
    have h1:=blkO b e
    rcases hK with hK | hK
    ·have:=(hB k hkm b hK).2;omega
    ·omega
   refine ho.keep (by omega) (fun b hb hK=>⟨fun e=>?_,fun l hl hlm e=>?_⟩) (fun b hb hK c hc=>?_)
   ·rcases hat with hat | ⟨b',hat,hb'⟩
    ·rw [hat] at e;exact hne b hb hK e
    ·rw [hat] at e;cases e;omega
   ·rcases hK with hK | hK
    ·exact hap k l hkm hlm (by omega) b hK e
    ·have:=(hB l hlm b e).2;omega
   ·rw [World.cell?_of_block (w:=w5) (a:=⟨b,c,none⟩) (step5 b hb (hne b hb hK))];exact hc
end Go.Proofs.YtmndgoapkmhglaaGreat
