import Derived.Deep.RegionHeld3
import Derived.Test.YtmndgoapkmhglaaGreatM10LawN
import Derived.Test.YtmndgoapkmhglaaGreatM16JudM
import Derived.Test.YtmndgoapkmhglaaGreatM20OpC
import Derived.Test.YtmndgoapkmhglaaGreatM21CwG
import Derived.Test.YtmndgoapkmhglaaGreatM22OrdE
namespace Go.Proofs.YtmndgoapkmhglaaGreat
open Go.RowKit
attribute [local go_sem ↓] Go.wp_at_zero Go.wp_at_succ
def RowAt (w:World) (v:Value) (zs:List Int):Prop:=
 ∃ (A:Option Addr) (C:Nat),v = .slice A zs.length C∧zs.length≤35184372088832∧(0<zs.length→∃ b o,A=some ⟨b,o,none⟩∧b<w.heap.size∧∀ c,(h:c<zs.length)→w.cell? ⟨b,o+c,none⟩=some (.int .i64 zs[c]))
def LsAt (w:World) (v:Value) (ins:List (List Int)):Prop:=
 ∃ (A:Option Addr) (C:Nat),v = .slice A ins.length C∧ins.length≤8796093022208∧(0<ins.length→∃ b o,A=some ⟨b,o,none⟩∧b<w.heap.size∧∀ r,(h:r<ins.length)→∃ x,w.cell? ⟨b,o+r,none⟩=some x∧RowAt w x ins[r])
theorem RowAt.below {w w':World}{v:Value}{zs:List Int} (h:RowAt w v zs) (hb:Below w.heap.size w w'):RowAt w' v zs:=by
 obtain ⟨A,C,hv,hm,hc⟩:=h
 refine ⟨A,C,hv,hm,fun hp=>?_⟩
 obtain ⟨b,o,h1,h2,h3⟩:=hc hp
 exact ⟨b,o,h1,Nat.lt_of_lt_of_le h2 hb.size,fun c hc=>(hb.cell (p:=⟨b,o+c,none⟩) h2).trans (h3 c hc)⟩
theorem LsAt.below {w w':World}{v:Value}{ins:List (List Int)} (h:LsAt w v ins) (hb:Below w.heap.size w w'):LsAt w' v ins:=by
 obtain ⟨A,C,hv,hm,hc⟩:=h
 refine ⟨A,C,hv,hm,fun hp=>?_⟩
 obtain ⟨b,o,h1,h2,h3⟩:=hc hp
 refine ⟨b,o,h1,Nat.lt_of_lt_of_le h2 hb.size,fun r hr=>?_⟩
 obtain ⟨x,hx,hr⟩:=h3 r hr
 exact ⟨x,(hb.cell (p:=⟨b,o+r,none⟩) h2).trans hx,hr.below hb⟩
structure MatI (w:World) (g m n:Nat) (R:Nat→Nat) (F:Nat→Nat→Int):Prop where
 outer:∀ i,i<m→w.cell? ⟨g,i,none⟩=some (.slice (some ⟨R i,0,none⟩) n n)
 rows:∀ i,i<m→w.rowIs (R i) 3 n (fun j=>.int .i64 (F i j))
 inj:∀ i j,i<m→j<m→R i=R j→i=j
 ne:∀ i,i<m→R i≠g
theorem MatI.congr {w:World}{g m n:Nat}{R:Nat→Nat}{F F':Nat→Nat→Int} (h:MatI w g m n R F) (e:∀ i j,i<m→j<n→F i j=F' i j):MatI w g m n R F':=
 ⟨h.outer,fun i hi=>(h.rows i hi).congr (fun j hj=>by rw [e i j hi hj]),h.inj,h.ne⟩
theorem MatI.cell {w:World}{g m n:Nat}{R:Nat→Nat}{F:Nat→Nat→Int} (h:MatI w g m n R F) {i j:Nat} (hi:i<m) (hj:j<n):w.cell? ⟨R i,j,none⟩=some (.int .i64 (F i j)):=(h.rows i hi).cell hj
theorem MatI.froz {w:World}{g m n:Nat}{R:Nat→Nat}{F:Nat→Nat→Int} (h:MatI w g m n R F) {i:Nat} (hi:i<m) (j:Nat):w.frozen? ⟨R i,j,none⟩=false:=(h.rows i hi).frozen j
theorem MatI.set {w:World}{g m n:Nat}{R:Nat→Nat}{F:Nat→Nat→Int} (h:MatI w g m n R F) {a:Nat} (ha:a<m) (b:Nat) (v:Int):MatI (w.setCell ⟨R a,b,none⟩ (.int .i64 v)) g m n R (fun i k=>if i=a∧k=b then v else F i k):=by
 refine ⟨fun i hi=>?_,fun i hi=>?_,h.inj,h.ne⟩
 ·rw [← h.outer i hi]
  exact World.cell?_setCell_other _ _ _ _ (by intro e;exact h.ne a ha (congrArg Addr.block e))
 ·by_cases e:i=a
  ·subst e
   refine ((h.rows i hi).set b (.int .i64 v)).congr (fun j _=>?_)
   by_cases ej:j=b
   ·subst ej;simp
   ·simp [ej]
  ·refine ((h.rows i hi).setOther (a:=⟨R a,b,none⟩) (fun e2=>e (h.inj i a hi ha e2)) (.int .i64 v)).congr (fun j _=>?_)
   simp [e]
theorem MatI.keep {w w':World}{g m n:Nat}{R:Nat→Nat}{F:Nat→Nat→Int} (h:MatI w g m n R F) (hg:w'.heap[g]? = w.heap[g]?) (hr:∀ i,i<m→w'.heap[R i]? = w.heap[R i]?):MatI w' g m n R F:=
 ⟨fun i hi=>(World.cell?_of_block (w:=w) (a:=⟨g,i,none⟩) hg).trans (h.outer i hi),fun i hi=>(h.rows i hi).of_block (hr i hi),h.inj,h.ne⟩
theorem MatI.lt {w:World}{g m n:Nat}{R:Nat→Nat}{F:Nat→Nat→Int} (h:MatI w g m n R F) (hm:0<m):g<w.heap.size:=World.block_lt_of_cell? _ _ (h.outer 0 hm)
theorem MatI.below {w w':World}{g m n:Nat}{R:Nat→Nat}{F:Nat→Nat→Int} (h:MatI w g m n R F) (hb:Below w.heap.size w w'):MatI w' g m n R F:=
 ⟨fun i hi=>(hb.cell (p:=⟨g,i,none⟩) (h.lt (by omega))).trans (h.outer i hi),fun i hi=>(h.rows i hi).of_block (hb.block _ (World.rowIs.lt (h.rows i hi))),h.inj,h.ne⟩
end Go.Proofs.YtmndgoapkmhglaaGreat
namespace Go.Proofs.YtmndgoapkmhglaaGreat
open Go.RowKit
theorem row_eq {xs ys:List Int} (hl:xs.length=ys.length) (h:∀ j,(hx:j<xs.length)→(hy:j<ys.length)→xs[j]=ys[j]):(xs == ys)=true:=by
 rw [beq_iff_eq]
 exact List.ext_getElem hl h
theorem row_ne {xs ys:List Int}{j:Nat} (hx:j<xs.length) (hy:j<ys.length) (h:xs[j]≠ys[j]):(xs == ys)=false:=by
 rw [beq_eq_false_iff_ne]
 rintro rfl
 exact h rfl
def iCells (l:List Int):List Value:=l.map fun x=>Value.int .i64 x
theorem iCells_len (l:List Int):(iCells l).length=l.length:=by simp [iCells]
theorem iCells_get (l:List Int) (j:Nat):(iCells l)[j]? = l[j]?.map fun x=>Value.int .i64 x:=by simp [iCells]
theorem Tryz.infoIntsE:(Tryz.prog.info? 34).map (fun i=>(i.zero,i.size,i.bytes))=some (some (.slice none 0 0),1,24):=by kernel_rfl
structure ArgL (w:World) (A:Option Addr) (C:Nat) (ins:List (List Int)) (AS:Nat→Option Addr) (CS:Nat→Nat):Prop where
 few:ins.length≤5864062014805
 nil:A=none→ins=[]
 out:0<ins.length→∃ b o,A=some ⟨b,o,none⟩∧b<w.heap.size∧∀ r,(h:r<ins.length)→w.cell? ⟨b,o+r,none⟩=some (.slice (AS r) ins[r].length (CS r))
 row:∀ r,(h:r<ins.length)→RowAt w (.slice (AS r) ins[r].length (CS r)) ins[r]∧(AS r=none→ins[r]=[])∧ins[r].length≤17592186044416
 cap:∀ r,(h:r<ins.length)→ins[r].length≤CS r
theorem ArgL.ls {w:World}{A:Option Addr}{C:Nat}{ins:List (List Int)}{AS:Nat→Option Addr}{CS:Nat→Nat} (h:ArgL w A C ins AS CS):LsAt w (.slice A ins.length C) ins:=by
 refine ⟨A,C,rfl,by have:=h.few;omega,fun hp=>?_⟩
 obtain ⟨b,o,h1,h2,h3⟩:=h.out hp
 exact ⟨b,o,h1,h2,fun r hr=>⟨_,h3 r hr,(h.row r hr).1⟩⟩
def rowF (F:Nat→Nat→Int) (i n:Nat):List Int:=(List.range n).map (F i)
theorem rowF_len (F:Nat→Nat→Int) (i n:Nat):(rowF F i n).length=n:=by simp [rowF]
structure OwnRows (B:Nat) (w:World) (v:Value) (m n:Nat) (F:Nat→Nat→Int) (g:Nat) (RV:Nat→Value):Prop where
 shape:∃ (a:Option Addr) (cap:Nat),v = .slice a m cap∧(0<m→a=some ⟨g,0,none⟩)
 outer:∀ i,i<m→w.cell? ⟨g,i,none⟩=some (RV i)
 rows:∀ i,i<m→w.ownsRow B 3 1 (RV i) n (iCells (rowF F i n))
 apart:∀ i j,i<m→j<m→i≠j→∀ b,(RV i).ownBlock=some b→(RV j).ownBlock≠some b
 ne:∀ i,i<m→(RV i).ownBlock≠some g
def strR (s:ByteArray) (n:Int):Nat:=if (textF s).1≠0 then (textF s).1 else if n<0∨200<n then 10 else 0
structure Outs (B:Nat) (w:World) (v:Value) (m n:Nat) (F:Nat→Nat→Int):Prop where
 mat:∃ (a:Option Addr) (g cap:Nat) (R:Nat→Nat),v = .slice a m cap∧(0<m→a=some ⟨g,0,none⟩)∧MatI w g m n R F∧(∀ i,i<m→B≤R i)∧B≤g
theorem Outs.own {B:Nat}{w:World}{v:Value}{m n:Nat}{F:Nat→Nat→Int} (h:Outs B w v m n F) (hn:n≤1000):∃ g RV,OwnRows B w v m n F g RV:=by
 obtain ⟨a,g,cap,R,h1,h2,h3,h4,h5⟩:=h.mat
 refine ⟨g,fun i=>.slice (some ⟨R i,0,none⟩) n n,⟨a,cap,h1,h2⟩,h3.outer,fun i hi=>?_,fun i j hi hj hne b hb hb'=>?_,fun i hi hb=>?_⟩
 ·obtain ⟨c,hc1,hc2,hc3⟩:=h3.rows i hi
  refine ⟨by rw [iCells_len,rowF_len];omega,.inr ⟨R i,n,c,rfl,h4 i hi,hc1,Nat.le_refl _,by unfold maxLen;omega,by omega,?_⟩⟩
  apply List.ext_getElem?
  intro j
  rw [List.getElem?_take,iCells_get]
  by_cases hj:j<n
  ·rw [if_pos (by omega),Array.getElem?_toList,hc3 j hj]
   simp [rowF,hj]
  ·rw [if_neg (by omega),List.getElem?_eq_none (by rw [rowF_len];omega)];rfl
 ·simp only [Value.ownBlock,Option.some.injEq] at hb hb'
  exact hne (h3.inj i j hi hj (by omega))
 ·simp only [Value.ownBlock,Option.some.injEq] at hb
  exact h3.ne i hi hb
theorem own_row {B:Nat}{w:World}{v:Value}{n:Nat}{xs:List Int} (h:w.ownsRow B 3 1 v n (iCells xs)) (hn:n≤1000) (hl:xs.length=n):RowAt w v xs:=by
 rcases h.2 with ⟨rfl,h0⟩ | ⟨g,cap,cur,rfl,hb,hg,h1,h2,h3,h4⟩
 ·exact ⟨none,0,by rw [hl,h0],by omega,fun hp=>by omega⟩
 ·refine ⟨_,_,by rw [hl],by omega,fun hp=>⟨g,0,rfl,(Array.getElem?_eq_some_iff.1 hg).1,fun c hc=>?_⟩⟩
  rw [Nat.zero_add,h.cellAt c (by omega),iCells_get,List.getElem?_eq_getElem hc];rfl
theorem own_of {B:Nat}{w w':World}{e:TypeId}{size n:Nat}{v:Value}{xs:List Value} (h:w.ownsRow B e size v n xs) (hk:∀ b,v.ownBlock=some b→w'.heap[b]? = w.heap[b]?):w'.ownsRow B e size v n xs:=by
 refine ⟨h.1,?_⟩
 rcases h.2 with h0 | ⟨g,cap,cur,rfl,hb,hg,h1⟩
 ·exact .inl h0
 ·exact .inr ⟨g,cap,cur,rfl,hb,(hk g rfl).trans hg,h1⟩
def StrQ (s:ByteArray) (ins:List (List Int)) (n:Int) (B:Nat) (w':World) (v:Value):Prop:=
 if strR s n=0 then ∀ L,RGood s L→Right (toks s) L→∃ g RV,OwnRows B w' v (eqL L).length n.toNat (sol (toks s) L ins) g RV else ∃ a cap,v = .slice a 0 cap
structure RowD where
 ty:TypeId
 sz:Nat
 n:Nat
 xs:List Value
theorem opCells_snoc (l:List OpF) (o:OpF):opCells (l ++ [o])=opCells l ++ [.int .i64 o.k,.int .i64 o.a,.int .i64 o.b,.int .i64 o.c]:=by simp [opCells]
structure WM where
 s:WSt
 nx:List Nat
 out:List Nat
 rs:List Nat
def wRow (ds:List Dc) (ns:List Nd) (lk:List Rt) (m:WM):Nat→RowD
 | 0=>⟨91,7,ds.length,dcCells ds⟩
 | 1=>⟨126,11,ns.length,ndCells ns⟩
 | 3=>⟨111,3,lk.length,rtCells lk⟩
 | 4=>⟨79,4,m.s.ops.length,opCells m.s.ops⟩
 | 5=>⟨3,1,m.s.cells.length,iCells m.s.cells⟩
 | 6=>⟨3,1,m.nx.length,tCells m.nx⟩
 | 7=>⟨3,1,m.out.length,tCells m.out⟩
 | 8=>⟨3,1,m.rs.length,tCells m.rs⟩
 | 9=>⟨3,1,(m.s.later.map Lt.o).length,tCells (m.s.later.map Lt.o)⟩
 | _=>⟨3,1,0,[]⟩
structure WrV (w:World) (X:Nat→Prop) (b:Nat) (pl:Int) (D:Nat→RowD) (v:Nat→Value):Prop where
 at_b:w.heap[b]? = some (.cells #[v 0,v 1,.int .i64 pl,v 3,v 4,v 5,v 6,v 7,v 8,v 9] 103)
 rows:∀ i,w.ownsRow 0 (D i).ty (D i).sz (v i) (D i).n (D i).xs
 apart:∀ i j g,i≠j→(v i).ownBlock=some g→(v j).ownBlock≠some g
 nb:∀ i,(v i).ownBlock≠some b
 xlt:∀ k,X k→k<w.heap.size
 xb:¬ X b
 xv:∀ i g,4≤i→(v i).ownBlock=some g→¬ X g
theorem WrV.lt {w:World}{X:Nat→Prop}{b:Nat}{pl:Int}{D:Nat→RowD}{v:Nat→Value} (h:WrV w X b pl D v):b<w.heap.size:=(Array.getElem?_eq_some_iff.1 h.at_b).1
theorem WrV.froz {w:World}{X:Nat→Prop}{b:Nat}{pl:Int}{D:Nat→RowD}{v:Nat→Value} (h:WrV w X b pl D v) (i:Nat):w.frozen? ⟨b,i,none⟩=false:=frozen_of_row w b i _ _ h.at_b
theorem WrV.cell {w:World}{X:Nat→Prop}{b:Nat}{pl:Int}{D:Nat→RowD}{v:Nat→Value} (h:WrV w X b pl D v) :
  w.cell? ⟨b,0,none⟩=some (v 0)∧w.cell? ⟨b,1,none⟩=some (v 1)∧w.cell? ⟨b,2,none⟩=some (.int .i64 pl)∧w.cell? ⟨b,3,none⟩=some (v 3)∧w.cell? ⟨b,4,none⟩=some (v 4)∧
  w.cell? ⟨b,5,none⟩=some (v 5)∧w.cell? ⟨b,6,none⟩=some (v 6)∧w.cell? ⟨b,7,none⟩=some (v 7)∧w.cell? ⟨b,8,none⟩=some (v 8)∧w.cell? ⟨b,9,none⟩=some (v 9):=by
 refine ⟨?_,?_,?_,?_,?_,?_,?_,?_,?_,?_⟩ <;> (rw [cell_of_row w b _ _ _ _ h.at_b];rfl)
theorem WrV.below {w w':World}{X:Nat→Prop}{b:Nat}{pl:Int}{D:Nat→RowD}{v:Nat→Value} (h:WrV w X b pl D v) (hb:Below w.heap.size w w'):WrV w' X b pl D v:=
 ⟨(hb.block b h.lt).trans h.at_b,fun i=>own_eqb (h.rows i) (fun k hk=>hb.block k ((h.rows i).lt k hk).2),h.apart,h.nb,fun k hk=>Nat.lt_of_lt_of_le (h.xlt k hk) hb.size,h.xb,h.xv⟩
theorem WrV.cast {w:World}{X:Nat→Prop}{b:Nat}{pl:Int}{D D':Nat→RowD}{v:Nat→Value} (h:WrV w X b pl D v) (e:∀ i,D i=D' i):WrV w X b pl D' v:=
 ⟨h.at_b,fun i=>by rw [← e i];exact h.rows i,h.apart,h.nb,h.xlt,h.xb,h.xv⟩
theorem WrV.more {w:World}{X Y:Nat→Prop}{b:Nat}{pl:Int}{D:Nat→RowD}{v:Nat→Value} (h:WrV w X b pl D v) (h1:∀ k,Y k→k<w.heap.size) (h2:¬ Y b) (h3:∀ i g,4≤i→(v i).ownBlock=some g→¬ Y g):WrV w Y b pl D v:=
 ⟨h.at_b,h.rows,h.apart,h.nb,h1,h2,h3⟩
def up {α:Type} (f:Nat→α) (i:Nat) (x:α):Nat→α:=fun j=>if j=i then x else f j
theorem up_same {α:Type} (f:Nat→α) (i:Nat) (x:α):up f i x i=x:=by simp [up]
theorem up_other {α:Type} (f:Nat→α) {i j:Nat} (x:α) (h:j≠i):up f i x j=f j:=by simp [up,h]
theorem WrV.push {w w1:World}{X:Nat→Prop}{b:Nat}{pl:Int}{D:Nat→RowD}{v:Nat→Value} (h:WrV w X b pl D v) (i:Nat) (hi:4≤i∧i<10) {r:RowD}{g cap len:Nat} (hgrow:w.grownBy w1 (v i).ownBlock)
  (hown:w1.ownsRow 0 r.ty r.sz (.slice (some ⟨g,0,none⟩) len cap) len r.xs) (hlen:r.n=len) (hat:(v i).ownBlock=some g∨w.heap.size≤g) :
  WrV (w1.setCell ⟨b,i,none⟩ (.slice (some ⟨g,0,none⟩) len cap)) X b pl (up D i r) (up v i (.slice (some ⟨g,0,none⟩) len cap))∧Fr X w (w1.setCell ⟨b,i,none⟩ (.slice (some ⟨g,0,none⟩) len cap)):=by
 have gb:g≠b:=by
  rcases hat with hg | hg
  ·rintro rfl;exact h.nb i hg
  ·have:=h.lt;omega
 have hbb:w1.heap[b]? = w.heap[b]?:=hgrow.block b h.lt (Ne.symm (h.nb i))
 have gx:¬ X g:=by
  rcases hat with hg | hg
  ·exact h.xv i g hi.1 hg
  ·intro hx;have:=h.xlt g hx;omega
 have ga:∀ j k,j≠i→(v j).ownBlock=some k→k≠g:=fun j k hj hk e=>by
  subst e
  rcases hat with hg | hg
  ·exact h.apart j i k hj hk hg
  ·have:=((h.rows j).lt k hk).2;omega
 refine ⟨⟨?_,?_,?_,?_,?_,h.xb,?_⟩,?_⟩
 ·rw [heap_setCell_same w1 b i _ _ _ (hbb.trans h.at_b)]
  have:i=4∨i=5∨i=6∨i=7∨i=8∨i=9:=by omega
  rcases this with rfl | rfl | rfl | rfl | rfl | rfl <;> rfl
 ·intro j
  by_cases e:j=i
  ·subst e
   rw [up_same,up_same,hlen]
   exact own_eqb hown (fun k hk=>heap_setCell_other w1 ⟨b,j,none⟩ k _ (by simp [Value.ownBlock] at hk;rw [← hk];exact gb))
  ·rw [up_other _ _ e,up_other _ _ e]
   refine own_eqb (h.rows j) (fun k hk=>?_)
   rw [heap_setCell_other w1 ⟨b,i,none⟩ k _ (fun e=>by have e':k=b:=e;subst e';exact h.nb j hk)]
   exact hgrow.block k ((h.rows j).lt k hk).2 (fun e2=>h.apart j i k e hk e2.symm)
 ·intro j k c hjk hc
  by_cases e:j=i
  ·subst e
   rw [up_same] at hc
   rw [up_other _ _ (Ne.symm hjk)]
   have:g=c:=by simpa [Value.ownBlock] using hc
   subst this
   exact fun hk=>ga k g (Ne.symm hjk) hk rfl
  ·rw [up_other _ _ e] at hc
   by_cases e2:k=i
   ·subst e2
    rw [up_same]
    intro hk
    have:g=c:=by simpa [Value.ownBlock] using hk
    subst this
    exact ga j g e hc rfl
   ·rw [up_other _ _ e2];exact h.apart j k c hjk hc
 ·intro j
  by_cases e:j=i
  ·subst e;rw [up_same];simp [Value.ownBlock,gb]
  ·rw [up_other _ _ e];exact h.nb j
 ·intro k hk
  have:=h.xlt k hk
  have h2:=hgrow.size
  simp;omega
 ·intro j k hj4 hk
  by_cases e:j=i
  ·subst e
   rw [up_same] at hk
   have:g=k:=by simpa [Value.ownBlock] using hk
   rw [← this];exact gx
  ·rw [up_other _ _ e] at hk;exact h.xv j k hj4 hk
 ·refine ⟨hgrow.os,hgrow.tape,hgrow.output,by have:=hgrow.size;simpa using this,fun k hk=>?_⟩
  rw [heap_setCell_other w1 ⟨b,i,none⟩ k _ (fun e=>by have e':k=b:=e;subst e';exact h.xb hk)]
  exact hgrow.block k (h.xlt k hk) (fun e=>h.xv i k hi.1 e.symm hk)
theorem row_up (ds:List Dc) (ns:List Nd) (lk:List Rt) (m m':WM) (i:Nat) (r:RowD) (hr:wRow ds ns lk m' i=r) (ho:∀ j,j≠i→wRow ds ns lk m j=wRow ds ns lk m' j):∀ j,up (wRow ds ns lk m) i r j=wRow ds ns lk m' j:=by
 intro j
 by_cases e:j=i
 ·subst e;rw [up_same,hr]
 ·rw [up_other _ _ e];exact ho j e
def Wr (w:World) (X:Nat→Prop) (b:Nat) (pl:Int) (ds:List Dc) (ns:List Nd) (lk:List Rt) (m:WM):Prop:=∃ v,WrV w X b pl (wRow ds ns lk m) v
end Go.Proofs.YtmndgoapkmhglaaGreat
namespace Go.Proofs.YtmndgoapkmhglaaGreat
open Go.RowKit
attribute [local go_sem ↓] Go.wp_at_zero Go.wp_at_succ
theorem Tryz.infoOpW:(Tryz.prog.info? 79).map (fun i=>(i.zero,i.size,i.bytes))=some (some (.agg #[.int .i64 0,.int .i64 0,.int .i64 0,.int .i64 0]),4,32):=by kernel_rfl
def WM.add (m:WM) (o:OpF):WM:={ m with s:=(wAdd m.s o).1 }
theorem rows_add (ds:List Dc) (ns:List Nd) (lk:List Rt) (m:WM) (o:OpF):∀ j,up (wRow ds ns lk m) 4 ⟨79,4,m.s.ops.length+1,opCells (m.s.ops ++ [o])⟩ j=wRow ds ns lk (m.add o) j:=by
 refine row_up ds ns lk m (m.add o) 4 _ ?_ ?_
 ·simp [wRow,WM.add,wAdd]
 ·intro j hj
  match j,hj with
  | 0,_ | 1,_ | 2,_ | 3,_ | 5,_ | 6,_ | 7,_ | 8,_ | 9,_=>rfl
  | 4,h=>exact absurd rfl h
  | n+10,_=>rfl
set_option maxHeartbeats 4000000 in
set_option maxRecDepth 100000 in
theorem wadd_any (w:World) (X:Nat→Prop) (b:Nat) (pl:Int) (ds:List Dc) (ns:List Nd) (lk:List Rt) (m:WM) (h:Wr w X b pl ds ns lk m) (o:OpF) (hl:m.s.ops.length≤3000) :
  Calls Tryz.prog 81 #[.pointer (some ⟨b,0,none⟩),.agg #[.int .i64 o.k,.int .i64 o.a,.int .i64 o.b,.int .i64 o.c]] w fun e w'=>
   e = .returned (.int .i64 (m.s.ops.length:Int))∧Wr w' X b pl ds ns lk (m.add o)∧Fr X w w':=by
 obtain ⟨v,hv⟩:=h
 obtain ⟨i0,hi0,hz0,hz1,hz2⟩:=info_parts Tryz.infoOpW
 have HXL:=hide hv.xlt
 obtain ⟨ok,oa,ob,oc⟩:=o
 obtain ⟨w2,hw2⟩:∃ w2,w2=w.alloc (.cells #[.int .i64 ok,.int .i64 oa,.int .i64 ob,.int .i64 oc] 79):=⟨_,rfl⟩
 have hB2:Below w.heap.size w w2:=by rw [hw2];exact (Below.refl _ _).alloc (Nat.le_refl _) _
 have hN2:w2.heap.size=w.heap.size+1:=by rw [hw2];simp
 have hp2:=hv.below hB2
 have hblk:w2.heap[w.heap.size]? = some (.cells #[.int .i64 ok,.int .i64 oa,.int .i64 ob,.int .i64 oc] 79):=by rw [hw2];exact heap_alloc_new w _
 have d0:w2.cell? ⟨w.heap.size,0,none⟩=some (.int .i64 ok):=by rw [cell_of_row w2 _ 0 _ _ _ hblk];rfl
 have d1:w2.cell? ⟨w.heap.size,1,none⟩=some (.int .i64 oa):=by rw [cell_of_row w2 _ 1 _ _ _ hblk];rfl
 have d2:w2.cell? ⟨w.heap.size,2,none⟩=some (.int .i64 ob):=by rw [cell_of_row w2 _ 2 _ _ _ hblk];rfl
 have d3:w2.cell? ⟨w.heap.size,3,none⟩=some (.int .i64 oc):=by rw [cell_of_row w2 _ 3 _ _ _ hblk];rfl
 have c4:=hp2.cell.2.2.2.2.1
 have f4:=hp2.froz 4
 have fa:∀ o,(w2.alloc o).frozen? ⟨b,4,none⟩=false:=fun o=>by rw [World.frozen?_alloc_past _ _ _ hp2.lt];exact f4
 have ca:∀ o,(w2.alloc o).cell? ⟨b,4,none⟩=some (v 4):=fun o=>by rw [World.cell?_alloc_past _ _ _ hp2.lt];exact c4
 have nbv:=hp2.nb 4
 have hown:w2.ownsRow 0 79 4 (v 4) m.s.ops.length (opCells m.s.ops):=hp2.rows 4
 have lb:=hp2.lt
 have HV:=hide hp2
 have HRA:=hide (rows_add ds ns lk m ⟨ok,oa,ob,oc⟩)
 have HB2:=hide hB2
 have HN2:=hide hN2
 clear hv hp2 hblk hB2 hN2
 obtain ⟨v4,hv4⟩:∃ v4,v4=v 4:=⟨_,rfl⟩
 rw [← hv4] at ca nbv hown c4
 have HV4:=hide hv4.symm
 clear hv4
 go_enter Tryz.func81,Tryz.ntmps81
 go_wp2_with fail
 rw [← hw2]
 clear hw2
 go_region_law ((refine step_append_lies _ (by rfl) _ _ _ (by rfl) 0 79 i0 _ 4 32 Tryz.underlying41 hi0 hz0 hz1 hz2 rfl (by omega) v4 m.s.ops.length (opCells m.s.ops) (by rfl) ((hown.alloc _).drew) ⟨w2.heap.size,0,none⟩ 1 1 [.int .i64 ok,.int .i64 oa,.int .i64 ob,.int .i64 oc] (by rfl) (by rfl) (World.news_of_block (cs:=#[.int .i64 ok,.int .i64 oa,.int .i64 ob,.int .i64 oc]) (t:=79) (fr:=(0,0)) (heap_alloc_new w2 _)) (by simp [Value.oneCell']) (by omega) (by unfold maxLen;omega) (by omega) (by simp) (w2.heap.size+1) (by simp) ?_;intro gg cap2 w3 hown3 hgrow hat hlt3;have k4:=(hgrow.cell_far ⟨b,4,none⟩ (by simp;omega) (Ne.symm nbv)).trans (ca _);have e4:=(hgrow.frozen_far ⟨b,4,none⟩ (by simp;omega) (Ne.symm nbv)).trans (fa _)))
 all_goals
  have hPa:=HV.out.below (((Below.refl w2.heap.size w2).alloc (Nat.le_refl _) (.cells #[.int .i64 ok,.int .i64 oa,.int .i64 ob,.int .i64 oc] 79)).drew)
  have hfin:=hPa.push 4 (by omega) (g:=gg) (cap:=cap2) (len:=m.s.ops.length+1) (r:=⟨79,4,m.s.ops.length+1,opCells (m.s.ops ++ [⟨ok,oa,ob,oc⟩])⟩) (by rw [HV4.out];exact hgrow) (by rw [opCells_snoc];exact hown3) rfl (by rw [HV4.out];exact hat_le hat (by simp))
  have HFIN:=hide hfin
  have HBEL:Hid (Fr X w (w2.alloc (.cells #[.int .i64 ok,.int .i64 oa,.int .i64 ob,.int .i64 oc] 79)).drew):=hide (Fr.of_below ((HB2.out.alloc HB2.out.size _).drew) HXL.out)
  have c4':=hfin.1.cell.2.2.2.2.1
  rw [up_same] at c4'
  clear hown3 hgrow hat hPa hfin hown c4 f4 k4 e4
  go_wp2
  go_ret
  exact ⟨by go_num,⟨_,HFIN.out.1.cast HRA.out⟩,HBEL.out.trans HFIN.out.2⟩
theorem Wr.below {w w':World}{X:Nat→Prop}{b:Nat}{pl:Int}{ds:List Dc}{ns:List Nd}{lk:List Rt}{m:WM} (h:Wr w X b pl ds ns lk m) (hb:Below w.heap.size w w'):Wr w' X b pl ds ns lk m:=by
 obtain ⟨v,hv⟩:=h
 exact ⟨v,hv.below hb⟩
theorem Wr.frb {w w':World}{X:Nat→Prop}{b:Nat}{pl:Int}{ds:List Dc}{ns:List Nd}{lk:List Rt}{m:WM} (h:Wr w X b pl ds ns lk m) (hb:Below w.heap.size w w'):Fr X w w':=by
 obtain ⟨v,hv⟩:=h
 exact Fr.of_below hb hv.xlt
theorem wconst_any (w:World) (X:Nat→Prop) (b:Nat) (pl:Int) (ds:List Dc) (ns:List Nd) (lk:List Rt) (m:WM) (h:Wr w X b pl ds ns lk m) (n:Nd) (hl:m.s.ops.length≤3000) :
  Calls Tryz.prog 83 #[.pointer (some ⟨b,0,none⟩),n.val] w fun e w'=>
   e = .returned (.int .i64 (m.s.ops.length:Int))∧Wr w' X b pl ds ns lk (m.add ⟨0,(n.value:Nat),0,0⟩)∧Fr X w w':=by
 have HAL:Hid (∀ o,Below w.heap.size w (w.alloc o)):=hide (fun o=>(Below.refl _ _).alloc (Nat.le_refl _) o)
 have HAD:=hide (fun o=>wadd_any (w.alloc o) X b pl ds ns lk m (h.below (HAL.out o)) ⟨0,(n.value:Nat),0,0⟩ hl)
 have HF:=hide (fun o=>h.frb (HAL.out o))
 clear h
 go_enter Tryz.func83,Tryz.ntmps83
 go_wp2_with fail
 refine (HAD.out _).mono ?_
 rintro e w2 ⟨rfl,hw2,hf2⟩
 go_wp2
 go_ret
 exact ⟨rfl,hw2,(HF.out _).trans hf2⟩
theorem rt_atW {w wr:World}{gr cr:Nat}{l:List Rt} (h:w.ownsRow 0 111 3 (.slice (some ⟨gr,0,none⟩) l.length cr) l.length (rtCells l)) (hb:Below w.heap.size w wr) (hg:gr<w.heap.size) {m:Nat} (hm:m<l.length) (r:Rt) (hr:r=l[m]'hm) :
  wr.cell? ⟨gr,m * 3,none⟩=some (.int .i64 (r.src:Int))∧wr.cell? ⟨gr,m * 3+1,none⟩=some (.int .i64 (r.dst:Int))∧wr.cell? ⟨gr,m * 3+2,none⟩=some (.bool r.late):=by
 have hx:∀ j,j<3→wr.cell? ⟨gr,m * 3+j,none⟩=(r.cells)[j]?:=fun j hj=>by
  rw [hb.cell (p:=⟨gr,m * 3+j,none⟩) hg,h.cellAt (m * 3+j) (by omega),hr]
  unfold rtCells
  exact flat_get Rt.cells 3 rt_len l m j hm hj
 exact ⟨hx 0 (by omega),hx 1 (by omega),hx 2 (by omega)⟩
theorem wFind_at {lk:List Rt}{num j:Nat} (hj:j<lk.length) (hall:∀ i,i<j→∀ r,lk[i]? = some r→r.src≠num) (he:lk[j].src=num):wFind lk num=(j,lk[j].late):=by
 unfold wFind
 have:lk.findIdx? (fun r=>r.src == num)=some j:=by
  rw [List.findIdx?_eq_some_iff_getElem]
  refine ⟨hj,by simp [he],fun i hi=>?_⟩
  have:=hall i hi _ (List.getElem?_eq_getElem (by omega))
  simpa using this
 rw [this]
 show (j,((lk[j]?).map Rt.late).getD false)=_
 rw [List.getElem?_eq_getElem hj];rfl
set_option maxHeartbeats 4000000 in
set_option maxRecDepth 100000 in
theorem wlink_any (w:World) (X:Nat→Prop) (b:Nat) (pl:Int) (ds:List Dc) (ns:List Nd) (lk:List Rt) (m:WM) (h:Wr w X b pl ds ns lk m) (ts:List Tk) (rs:List Nat) (n:Nd) (hd:n.kind=2→0≤n.decl∧n.decl<(ds.length:Int)) (hll:lk.length≤1000) :
  Calls Tryz.prog 110 #[.pointer (some ⟨b,0,none⟩),n.val] w fun e w'=>
   e = .returned (.tuple #[.int .i64 ((wLink ⟨ts,ds,pl,lk,rs⟩ n).1:Nat),.bool (wLink ⟨ts,ds,pl,lk,rs⟩ n).2])∧Below w.heap.size w w':=by
 obtain ⟨v,hv⟩:=h
 obtain ⟨w1,hw1⟩:∃ w1,w1=w.alloc (.cells #[.int .i64 (n.kind:Int),.int .i64 (n.pos:Int),.int .i64 (n.value:Int),.string n.name,.int .i64 n.decl,.int .i64 (n.op:Int),.int .i64 (n.a:Int),.int .i64 (n.b:Int),.int .i64 (n.c:Int),.bool n.delayed,.bool n.behind] 126):=⟨_,rfl⟩
 have hB1:Below w.heap.size w w1:=by rw [hw1];exact (Below.refl _ _).alloc (Nat.le_refl _) _
 have hS1:w.heap.size<w1.heap.size:=by rw [hw1];simp
 have hblk:w1.heap[w.heap.size]? = some (.cells #[.int .i64 (n.kind:Int),.int .i64 (n.pos:Int),.int .i64 (n.value:Int),.string n.name,.int .i64 n.decl,.int .i64 (n.op:Int),.int .i64 (n.a:Int),.int .i64 (n.b:Int),.int .i64 (n.c:Int),.bool n.delayed,.bool n.behind] 126):=by rw [hw1];exact heap_alloc_new w _
 have HND:Hid (∀ W,Below w1.heap.size w1 W→W.cell? ⟨w.heap.size,0,none⟩=some (.int .i64 (n.kind:Int))∧W.cell? ⟨w.heap.size,4,none⟩=some (.int .i64 n.decl)):=hide (fun W hW=>by
  have hN:=(hW.block w.heap.size hS1).trans hblk
  exact ⟨by rw [cell_of_row W _ 0 _ _ _ hN];rfl,by rw [cell_of_row W _ 4 _ _ _ hN];rfl⟩)
 have hv1:=hv.below hB1
 have HB1:=hide hB1
 have HVW:Hid (∀ W,Below w1.heap.size w1 W→WrV W X b pl (wRow ds ns lk m) v):=hide (fun W hW=>hv1.below hW)
 obtain ⟨a3,c3,e3,hs3⟩:=own_shape (hv1.rows 3)
 have e3':v 3 = .slice a3 lk.length c3:=e3
 have hs3':0<lk.length→∃ g,a3=some ⟨g,0,none⟩∧0≤g∧g<w1.heap.size:=hs3
 have HS3:=hide hs3'
 have HE3:=hide e3'
 by_cases hk:n.kind=2
 case neg=>
  have q0:((n.kind:Int) != 2)=true:=by rw [bne_iff_ne];omega
  have HF:Hid (wLink ⟨ts,ds,pl,lk,rs⟩ n=(0,false)):=hide (by unfold wLink;rw [if_pos (.inl hk)])
  obtain ⟨x0,x4⟩:=HND.out w1 (Below.refl _ _)
  clear hv hv1 e3 e3' hs3 hs3' hd hblk hB1 hk
  go_enter Tryz.func110,Tryz.ntmps110
  go_wp2_with fail
  rw [← hw1]
  clear hw1
  go_big_region
  go_wp2
  go_ret2
  exact ⟨by rw [HF.out];rfl,by first | exact HB1.out.drew | exact below_drewN HB1.out _⟩
 case pos=>
  have q0:((n.kind:Int) != 2)=false:=by rw [hk];rfl
  obtain ⟨hd1,hd2⟩:=hd hk
  obtain ⟨db,hdb⟩:∃ db:Nat,n.decl=(db:Int):=⟨n.decl.toNat,by omega⟩
  have hdl:db<ds.length:=by omega
  obtain ⟨a0,c0,e0,hs0⟩:=own_shape (hv1.rows 0)
  obtain ⟨gd,rfl,_,hgd⟩:=hs0 (by show 0<ds.length;omega)
  have e0':v 0 = .slice (some ⟨gd,0,none⟩) ds.length c0:=e0
  have hown0:w1.ownsRow 0 91 7 (.slice (some ⟨gd,0,none⟩) ds.length c0) ds.length (dcCells ds):=by rw [← e0'];exact hv1.rows 0
  obtain ⟨d,hdd⟩:∃ d,d=ds[db]'hdl:=⟨_,rfl⟩
  have HDC:Hid (∀ W,Below w1.heap.size w1 W→W.cell? ⟨b,0,none⟩=some (.slice (some ⟨gd,0,none⟩) ds.length c0)∧W.cell? ⟨gd,db * 7,none⟩=some (.int .i64 (d.kind:Int))∧W.cell? ⟨gd,db * 7+1,none⟩=some (.int .i64 (d.number:Int))):=hide (fun W hW=>by
   have:=dc_later hown0 hW hgd hdl d hdd
   exact ⟨by rw [← e0'];exact (HVW.out W hW).cell.1,this.1,this.2.1⟩)
  obtain ⟨x0,x4⟩:=HND.out w1 (Below.refl _ _)
  obtain ⟨y0,y1,y2⟩:=HDC.out w1 (Below.refl _ _)
  have i1:(0:Int)≤(db:Int):=by omega
  have i2:(db:Int)<(ds.length:Int):=by omega
  have hkind:kindAt ds n.decl=d.kind:=by unfold kindAt;rw [hdb,Int.toNat_natCast,List.getD_eq_getElem?_getD,List.getElem?_eq_getElem hdl,hdd];rfl
  have hnum:numAt ds n.decl=d.number:=by unfold numAt;rw [hdb,Int.toNat_natCast,List.getD_eq_getElem?_getD,List.getElem?_eq_getElem hdl,hdd];rfl
  rw [hdb] at x4 hw1 HND
  by_cases hk0:d.kind=0
  ·have q1:((d.kind:Int) == 0)=true:=by rw [hk0];rfl
   have HF:Hid (wLink ⟨ts,ds,pl,lk,rs⟩ n=(0,false)):=hide (by unfold wLink;rw [if_pos (.inr (by rw [← hk0];exact hkind))])
   have hdb':=hide hdb
   clear hv hv1 e3 e3' hs3 hs3' hd hblk hB1 hk e0 e0' hs0 hown0 hkind hnum hk0 hdd hd1 hd2 hdb
   go_enter Tryz.func110,Tryz.ntmps110
   go_wp2_with fail
   rw [hdb'.out,← hw1]
   clear hw1
   go_big_region
   go_wp2
   go_ret2
   exact ⟨by rw [HF.out];rfl,by first | exact HB1.out.drew | exact below_drewN HB1.out _⟩
  ·have q1:((d.kind:Int) == 0)=false:=by rw [beq_eq_false_iff_ne];omega
   have HF:Hid (wLink ⟨ts,ds,pl,lk,rs⟩ n=wFind lk d.number):=hide (by unfold wLink;rw [if_neg (by rw [hkind];simp [hk,hk0])];show wFind lk (numAt ds n.decl)=_;rw [hnum])
   have hdb':=hide hdb
   have y3:w1.cell? ⟨b,3,none⟩=some (.slice a3 lk.length c3):=by rw [← e3'];exact hv1.cell.2.2.2.1
   have y3d:w1.drew.cell? ⟨b,3,none⟩=some (.slice a3 lk.length c3):=y3
   have HOWN3:Hid (w1.ownsRow 0 111 3 (.slice a3 lk.length c3) lk.length (rtCells lk)):=hide (by rw [← e3'];exact hv1.rows 3)
   clear hv hv1 e3 e3' hs3 hs3' hd hblk hB1 hk e0 e0' hs0 hown0 hkind hnum hk0 hdd hd1 hd2 hdb
   go_enter Tryz.func110,Tryz.ntmps110
   go_wp2_with fail
   rw [hdb'.out,← hw1]
   clear hw1
   go_big_region
   go_wp2
   go_loopw [29] (fun vj wr=>∃ j:Nat,j≤lk.length∧vj = .int .i64 j∧Below w1.heap.size w1 wr∧∀ i,i<j→∀ r,lk[i]? = some r→r.src≠d.number) (fun vj _=>lk.length - (intOf vj).toNat)
   case atStart=>exact ⟨0,Nat.zero_le _,rfl,by first | exact (Below.refl _ _).drew | exact below_drewN (Below.refl _ _) _,fun i hi=>by omega⟩
   case round=>
    clear x0 x4 y0 y1 y2 y3 y3d
    obtain ⟨j,hj,rfl,hbr,hall⟩:=hrel
    have HALL:=hide hall
    have HBR:=hide hbr
    have HBW:=hide (HB1.out.trans (hbr.mono HB1.out.size))
    by_cases hjl:j<lk.length
    ·obtain ⟨g3,rfl,_,hg3⟩:=HS3.out (by omega)
     obtain ⟨r,hr⟩:∃ r,r=lk[j]'hjl:=⟨_,rfl⟩
     obtain ⟨r0,r1,r2⟩:=rt_atW HOWN3.out hbr hg3 hjl r hr
     have HAL:Hid (∀ o,Below w1.heap.size w1 (wr.alloc o)):=hide (fun o=>HBR.out.alloc HBR.out.size o)
     have x4a:∀ o,(wr.alloc o).cell? ⟨w.heap.size,4,none⟩=some (.int .i64 (db:Int)):=fun o=>(HND.out _ (HAL.out o)).2
     have y0a:∀ o,(wr.alloc o).cell? ⟨b,0,none⟩=some (.slice (some ⟨gd,0,none⟩) ds.length c0):=fun o=>(HDC.out _ (HAL.out o)).1
     have y2a:∀ o,(wr.alloc o).cell? ⟨gd,db * 7+1,none⟩=some (.int .i64 (d.number:Int)):=fun o=>(HDC.out _ (HAL.out o)).2.2
     have j3:(0:Int)≤(j:Int):=by omega
     have j4:(j:Int)<(lk.length:Int):=by omega
     by_cases he:r.src=d.number
     ·have q5:((r.src:Int) == (d.number:Int))=true:=by rw [he];simp
      have HF2:Hid (wFind lk d.number=(j,r.late)):=hide (by
       have:=wFind_at hjl HALL.out (by rw [← hr];exact he)
       rw [this,← hr])
      clear hall hr he hbr
      go_wp2_with fail
      go_big_region
      go_wp2_with fail
      go_big_region
      go_wp2
      go_ret2
      exact ⟨by rw [HF.out,HF2.out];rfl,by first | exact (HBW.out.alloc HBW.out.size _).drew.drew | exact below_drewN (HBW.out.alloc HBW.out.size _) _⟩
     ·have q5:((r.src:Int) == (d.number:Int))=false:=by rw [beq_eq_false_iff_ne];omega
      have HN:Hid (∀ i,i<j+1→∀ r,lk[i]? = some r→r.src≠d.number):=hide (fun i hi r' hr'=>by
       by_cases e:i=j
       ·subst e
        rw [List.getElem?_eq_getElem hjl,← hr] at hr'
        cases hr';exact he
       ·exact HALL.out i (by omega) r' hr')
      clear hall hr he hbr
      go_wp2_with fail
      go_big_region
      go_wp2
      go_roundw
      case rel=>exact ⟨j+1,by omega,by go_num,by first | exact (HAL.out _).drew | exact below_drewN (HAL.out _) _,HN.out⟩
      case measure=>simp [intOf];omega
    ·have ej:j=lk.length:=by omega
     subst ej
     have z9:¬ (lk.length:Int)<(lk.length:Int):=by omega
     have HF2:Hid (wFind lk d.number=(0,false)):=hide (wFind_none (fun r hr=>by
      obtain ⟨i,hi,rfl⟩:=List.getElem_of_mem hr
      exact HALL.out i hi _ (List.getElem?_eq_getElem hi)))
     clear hall hbr
     go_wp2
     go_ret2
     exact ⟨by rw [HF.out,HF2.out];rfl,by first | exact HBW.out | exact below_drewN HBW.out _⟩
end Go.Proofs.YtmndgoapkmhglaaGreat
