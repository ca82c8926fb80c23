import Derived.Test.YtmndgoapkmhglabGreatM18RefF
import Derived.Test.YtmndgoapkmhglabGreatM19RefG
import Derived.Test.YtmndgoapkmhglabGreatM20OpC
namespace Go.Proofs.YtmndgoapkmhglabGreat
def numL (k:Nat):List UInt8→Option Nat
 | []=>none
 | c :: r=>if W 2 c then some (k+(r.takeWhile (W 2)).length) else numL (k+1) r
def mkL:Nat→Nat→List UInt8→List Nat
 | 0,_,_=>[]
 | _+1,_,[]=>[]
 | f+1,k,c :: r=>
  if W 1 c then (if c :: r.takeWhile (W 1)=kAt then (numL (k+1+(r.takeWhile (W 1)).length) (r.dropWhile (W 1))).toList else []) ++ mkL f (k+1+(r.takeWhile (W 1)).length) (r.dropWhile (W 1))
  else mkL f (k+1) r
def isDig (t:Tk):Bool:=(t.l.head?).any (W 2)
def lastD (t:Tk):Nat:=t.pos+t.l.length - 1
def numT (r:List Tk):Option Nat:=(r.find? isDig).map lastD
def marksT:List Tk→List Nat
 | []=>[]
 | t :: r=>(if t.l=kAt then (numT r).toList else []) ++ marksT r
theorem numL_over {cl:Nat} (hcl:cl≠2):∀ (r:List UInt8) (k:Nat),numL (k+(r.takeWhile (W cl)).length) (r.dropWhile (W cl))=numL k r:=by
 intro r
 induction r with
 | nil=>intro k;rfl
 | cons c r ih=>
  intro k
  rw [List.takeWhile_cons,List.dropWhile_cons]
  cases h:W cl c with
  | false=>simp
  | true=>
   have h2:W 2 c=false:=by
    have:=W_cls h
    cases h':W 2 c with
    | false=>rfl
    | true=>exact absurd ((W_cls h').symm.trans this).symm hcl
   simp only [if_true,List.length_cons]
   rw [show k+((r.takeWhile (W cl)).length+1)=(k+1)+(r.takeWhile (W cl)).length by omega,ih (k+1)]
   show numL (k+1) r=if W 2 c then _ else numL (k+1) r
   rw [h2];rfl
theorem mkL_fuel:∀ f g k (l:List UInt8),l.length≤f→l.length≤g→mkL f k l=mkL g k l:=by
 intro f
 induction f with
 | zero=>
  intro g k l h1 h2
  cases l with
  | nil=>cases g <;> rfl
  | cons c r=>simp at h1
 | succ f ih=>
  intro g k l h1 h2
  cases l with
  | nil=>cases g <;> rfl
  | cons c r=>
   cases g with
   | zero=>simp at h2
   | succ g=>
    simp at h1 h2
    have:=drop_le (W 1) r
    simp only [mkL]
    rw [ih g (k+1) r h1 h2,ih g _ (r.dropWhile (W 1)) (by omega) (by omega)]
theorem mkL_over {cl:Nat} (hcl:cl≠1):∀ (r:List UInt8) (f k:Nat),r.length≤f→mkL f (k+(r.takeWhile (W cl)).length) (r.dropWhile (W cl))=mkL f k r:=by
 intro r
 induction r with
 | nil=>intro f k _;rfl
 | cons c r ih=>
  intro f k hf
  rw [List.takeWhile_cons,List.dropWhile_cons]
  cases h:W cl c with
  | false=>simp
  | true=>
   have h2:W 1 c=false:=by
    have:=W_cls h
    cases h':W 1 c with
    | false=>rfl
    | true=>exact absurd ((W_cls h').symm.trans this).symm hcl
   obtain ⟨f,rfl⟩:∃ g,f=g+1:=⟨f - 1,by simp at hf;omega⟩
   simp at hf
   have hd:=drop_le (W cl) r
   simp only [if_true,List.length_cons]
   rw [show k+((r.takeWhile (W cl)).length+1)=(k+1)+(r.takeWhile (W cl)).length by omega,mkL_fuel (f+1) f _ _ (by omega) (by omega),ih f (k+1) hf]
   show mkL f (k+1) r=if W 1 c then _ else mkL f (k+1) r
   rw [h2];rfl
theorem tokW_l (k:Nat) (w:List UInt8) (cl:Nat):(tokW k w cl).l=w:=by simp [tokW,Tk.l]
theorem num_tk:∀ n k (l:List UInt8),l.length=n→numL k l=numT (tk k l):=by
 intro n
 induction n using Nat.strongRecOn with
 | _ n ih=>
  intro k l hn
  cases l with
  | nil=>rfl
  | cons c r=>
   simp only [List.length_cons] at hn
   by_cases h0:cls c.toNat=0
   ·rw [tk_blank h0,← ih r.length (by omega) (k+1) r rfl]
    show (if W 2 c then _ else _)=_
    rw [if_neg (by unfold W;rw [h0];decide)]
   ·by_cases h2:cls c.toNat=2
    ·rw [tk_word (.inr h2)]
     show (if W 2 c then _ else _)=_
     rw [if_pos (by unfold W;rw [h2];rfl)]
     unfold numT
     rw [List.find?_cons_of_pos (by unfold isDig;rw [tokW_l];unfold W;simp [h2])]
     simp only [Option.map_some,lastD,tokW_l,List.length_cons,h2]
     show _=some (k+_ - 1)
     congr 1
    ·have hne:W 2 c=false:=by unfold W;simpa using h2
     have hno:∀ (w:List UInt8) cl,isDig (tokW k (c :: w) cl)=false:=fun w cl=>by unfold isDig;rw [tokW_l];simpa using hne
     by_cases h1:cls c.toNat=1
     ·rw [tk_word (.inl h1)]
      have hl:=take_drop_len (W (cls c.toNat)) r
      unfold numT
      rw [List.find?_cons_of_neg (by rw [hno];decide)]
      rw [← numT,← ih _ (by omega) _ _ rfl,numL_over (by omega)]
      show (if W 2 c then _ else _)=_
      rw [hne];rfl
     ·have:=cls_le c.toNat
      rw [tk_one (by omega)]
      unfold numT
      rw [List.find?_cons_of_neg (by rw [hno];decide)]
      rw [← numT,← ih _ (by omega) _ _ rfl]
      show (if W 2 c then _ else _)=_
      rw [hne];rfl
theorem marks_tk:∀ n f k (l:List UInt8),l.length=n→n≤f→mkL f k l=marksT (tk k l):=by
 intro n
 induction n using Nat.strongRecOn with
 | _ n ih=>
  intro f k l hn hf
  cases l with
  | nil=>cases f <;> rfl
  | cons c r=>
   simp only [List.length_cons] at hn
   obtain ⟨f,rfl⟩:∃ g,f=g+1:=⟨f - 1,by omega⟩
   by_cases h0:cls c.toNat=0
   ·rw [tk_blank h0,← ih r.length (by omega) f (k+1) r rfl (by omega)]
    show (if W 1 c then _ else _)=_
    rw [if_neg (by unfold W;rw [h0];decide)]
   ·have hl:=take_drop_len (W (cls c.toNat)) r
    by_cases h1:cls c.toNat=1
    ·rw [tk_word (.inl h1)]
     rw [h1] at hl
     show (if W 1 c then _ else _)=_
     rw [if_pos (by unfold W;rw [h1];rfl),h1]
     unfold marksT
     rw [tokW_l,num_tk _ _ _ rfl,ih _ (by omega) f _ _ rfl (by omega)]
    ·have hne:W 1 c=false:=by unfold W;simpa using h1
     have hat:∀ w:List UInt8,c :: w≠kAt:=fun w e=>by
      have hc:c=97:=by unfold kAt at e;simp at e;exact e.1
      rw [hc] at h1;exact h1 (by decide)
     by_cases h2:cls c.toNat=2
     ·rw [tk_word (.inr h2)]
      unfold marksT
      rw [tokW_l,if_neg (hat _),List.nil_append,← ih _ (by omega) f _ _ rfl (by omega),mkL_over (by omega) r f (k+1) (by omega)]
      show (if W 1 c then _ else _)=_
      rw [hne];rfl
     ·have:=cls_le c.toNat
      rw [tk_one (by omega)]
      unfold marksT
      rw [tokW_l,if_neg (hat _),List.nil_append,← ih _ (by omega) f _ _ rfl (by omega)]
      show (if W 1 c then _ else _)=_
      rw [hne];rfl
theorem marksT_end (e:Tk) (he:e.l=[]):∀ r:List Tk,marksT (r ++ [e])=marksT r:=by
 have hnum:∀ r:List Tk,numT (r ++ [e])=numT r:=by
  intro r
  unfold numT
  have hd:isDig e=false:=by unfold isDig;rw [he];rfl
  rw [List.find?_append]
  simp [hd]
 intro r
 induction r with
 | nil=>show (if e.l=kAt then _ else _) ++ []=[];rw [he];rfl
 | cons t r ih=>
  show (if t.l=kAt then (numT (r ++ [e])).toList else []) ++ marksT (r ++ [e])=_
  rw [hnum,ih];rfl
theorem drop_tk {ts:List Tk}{i:Nat} (h:i<ts.length):ts.drop i=tkAt ts i :: ts.drop (i+1):=by
 rw [List.drop_eq_getElem_cons h]
 congr 1
 unfold tkAt
 simp [List.getD_eq_getElem?_getD,List.getElem?_eq_getElem h]
theorem marks_step {ts:List Tk}{i:Nat} (h:i<ts.length) (hn:lAt ts i≠kAt):marksT (ts.drop i)=marksT (ts.drop (i+1)):=by
 rw [drop_tk h]
 show (if (tkAt ts i).l=kAt then _ else _) ++ _=_
 rw [if_neg hn];rfl
section
variable {ts:List Tk} (hF:∀ i,TkF (tkAt ts i))
include hF
theorem leaf_at {i:Nat} (h:leafT (tkAt ts i)=true):lAt ts i≠kAt:=leaf_ne hF h (by decide) (by decide) (by decide)
omit hF in
theorem lit_leaf {i:Nat} (h:litT (tkAt ts i)=true):leafT (tkAt ts i)=true:=by unfold leafT;rw [h];rfl
theorem marks_sp:∀ (t:Ast) (i:Nat),Sp ts t i→i+t.len≤ts.length→marksT (ts.drop i)=marksT (ts.drop (i+t.len)):=by
 have kw:∀ {i:Nat} {l:List UInt8},lAt ts i=l→l≠kAt→lAt ts i≠kAt:=fun h hn e=>hn (h.symm.trans e)
 intro t
 induction t with
 | leaf=>intro i hs hl;exact marks_step (by simp [Ast.len] at hl;omega) (leaf_at hF hs.1)
 | neg a iha=>
  intro i hs hl
  obtain ⟨h1,h2,h3,h4⟩:=hs
  simp only [Ast.len] at hl ⊢
  rw [marks_step (by omega) (kw h1 (by decide)),marks_step (by omega) (kw h2 (by decide)),iha (i+2) h3 (by omega),marks_step (by omega) (kw h4 (by decide))]
  congr 2;omega
 | ite a b c iha ihb ihc=>
  intro i hs hl
  obtain ⟨h1,h2,h3,h4,h5,h6⟩:=hs
  simp only [Ast.len] at hl ⊢
  rw [marks_step (by omega) (kw h1 (by decide)),marks_step (by omega) (kw h2 (by decide)),iha (i+2) h3 (by omega),ihb _ h4 (by omega),ihc _ h5 (by omega),marks_step (by omega) (kw h6 (by decide))]
  congr 2;omega
 | dly b ihb=>
  intro i hs hl
  obtain ⟨h1,h2,h3,h4,h5⟩:=hs
  simp only [Ast.len] at hl ⊢
  rw [marks_step (by omega) (kw h1 (by decide)),marks_step (by omega) (leaf_at hF (lit_leaf h2)),marks_step (by omega) (kw h3 (by decide)),ihb (i+3) h4 (by omega),marks_step (by omega) (kw h5 (by decide))]
  congr 2;omega
 | bin a b iha ihb=>
  intro i hs hl
  obtain ⟨h1,h2,h3,h4,h5⟩:=hs
  simp only [Ast.len] at hl ⊢
  have hop:lAt ts (i+1+a.len)≠kAt:=fun e=>by rw [e] at h3;revert h3;decide
  rw [marks_step (by omega) (kw h1 (by decide)),iha (i+1) h2 (by omega),marks_step (by omega) hop,show i+1+a.len+1=i+2+a.len by omega,ihb _ h4 (by omega),marks_step (by omega) (kw h5 (by decide))]
  congr 2;omega
theorem name_at {i:Nat} (h:(tkAt ts i).kind=1):lAt ts i≠kAt:=fun e=>by
 have:=(hF i).k1 h
 rw [show (tkAt ts i).l=kAt from e] at this
 revert this;decide
theorem marks_spell (hE:∀ i,(tkAt ts i).kind=0→ts.length≤i+1) (hD:∀ i,(tkAt ts i).kind=3→isDig (tkAt ts i)=true):∀ (L:List Dl) (i:Nat),Spell ts L i→marksT (ts.drop i)=(eqL L).map fun x=>lastD (tkAt ts (x.i+3)):=by
 have kw:∀ {i:Nat} {l:List UInt8},lAt ts i=l→l≠kAt→lAt ts i≠kAt:=fun h hn e=>hn (h.symm.trans e)
 intro L
 induction L with
 | nil=>
  intro i h
  obtain ⟨h1,h2⟩:=h
  rw [marks_step h1 (fun e=>by have:=(hF i).k0 h2;rw [show (tkAt ts i).l=kAt from e] at this;revert this;decide)]
  rw [List.drop_eq_nil_of_le (hE i h2)];rfl
 | cons x r ih=>
  intro i h
  obtain ⟨rfl,h1,h2,h3⟩:=h
  rcases h2 with ⟨hk,a1,a2,a3⟩ | ⟨hk,a2,a3,a4,a5,a6,a7⟩
  ·have hl:x.len=3:=by unfold Dl.len;rw [if_pos hk]
   rw [marks_step (by omega) (kw a1 (by decide)),marks_step (by omega) (name_at hF a2),marks_step (by omega) (kw a3 (by decide)),← show x.i+x.len=x.i+1+1+1 by omega,ih _ h3]
   simp [eqL,hk]
  ·have hk0:x.kind≠0:=by omega
   have hl:x.len=x.t.len+6:=by unfold Dl.len;rw [if_neg hk0]
   have h0:lAt ts x.i≠kAt:=by rcases hk with ⟨_,h⟩ | ⟨_,h⟩ <;> exact kw h (by decide)
   have h3k:lAt ts (x.i+3)≠kAt:=fun e=>by
    have:=(hF (x.i+3)).k3 a4.1
    rw [show (tkAt ts (x.i+3)).l=kAt from e] at this
    revert this;decide
   rw [marks_step (by omega) h0,marks_step (by omega) (name_at hF a2),drop_tk (by omega:x.i+1+1<ts.length)]
   show (if (tkAt ts (x.i+2)).l=kAt then _ else _) ++ _=_
   rw [if_pos a3,drop_tk (by omega:x.i+1+1+1<ts.length),numT,List.find?_cons_of_pos (hD (x.i+3) a4.1)]
   rw [← drop_tk (by omega:x.i+1+1+1<ts.length),marks_step (by omega) h3k,marks_step (by omega) (kw a5 (by decide)),marks_sp hF x.t (x.i+5) a6 (by omega),marks_step (by omega) (kw a7 (by decide)),← show x.i+x.len=x.i+5+x.t.len+1 by omega,ih _ h3]
   simp [eqL,hk0]
end
end Go.Proofs.YtmndgoapkmhglabGreat
namespace Go.Proofs.YtmndgoapkmhglabGreat
open Go.RowKit
attribute [local go_sem ↓] Go.wp_at_zero Go.wp_at_succ
structure RDc where
 name:ByteArray
 tok:Nat
 input:Bool
 truth:Bool
 place:Nat
 body:Nat
def rdc (ts:List Tk) (x:Dl):RDc:=if x.kind=0 then ⟨nameD ts x,x.i+1,true,false,0,0⟩ else ⟨nameD ts x,x.i+1,false,x.kind == 2,placeD ts x,x.i+5⟩
def RDc.cells (d:RDc):List Value:=[.string d.name,.int .i64 (d.tok:Int),.bool d.input,.bool d.truth,.int .i64 (d.place:Int),.int .i64 (d.body:Int)]
def rdCells (l:List RDc):List Value:=l.flatMap RDc.cells
theorem rdCells_snoc (l:List RDc) (t:RDc):rdCells (l ++ [t])=rdCells l ++ t.cells:=by simp [rdCells]
theorem rd_len (t:RDc):t.cells.length=6:=rfl
theorem Tryz.infoRDecl:(Tryz.prog.info? 106).map (fun i=>(i.zero,i.size,i.bytes))=some (some (.agg #[.string ⟨#[]⟩,.int .i64 0,.bool false,.bool false,.int .i64 0,.int .i64 0]),6,48):=by kernel_rfl
structure Rw where
 v:Value
 e:Nat
 sz:Nat
 n:Nat
 xs:List Value
structure RPV (w:World) (B q:Nat) (vT:Value) (R:Nat→Rw):Prop where
 lt:q<w.heap.size
 blk:w.heap[q]? = some (.cells #[vT,(R 1).v,(R 2).v,(R 3).v,(R 4).v] 103)
 own:∀ f,w.ownsRow B (R f).e (R f).sz (R f).v (R f).n (R f).xs
 nq:∀ f,(R f).v.ownBlock≠some q
 dis:∀ f f' k,f≠f'→(R f).v.ownBlock=some k→(R f').v.ownBlock≠some k
theorem RPV.below {w w':World}{B q:Nat}{vT:Value}{R:Nat→Rw} (h:RPV w B q vT R) (hb:Below w.heap.size w w'):RPV w' B q vT R:=
 ⟨Nat.lt_of_lt_of_le h.lt hb.size,(hb.block q h.lt).trans h.blk,fun f=>bel_own (h.own f) hb,h.nq,h.dis⟩
def putR (R:Nat→Rw) (f:Nat) (r:Rw):Nat→Rw:=fun k=>if k=f then r else R k
theorem putR_at (R:Nat→Rw) (f:Nat) (r:Rw):putR R f r f=r:=by unfold putR;rw [if_pos rfl]
theorem putR_put (R:Nat→Rw) (f:Nat) (r r':Rw):putR (putR R f r) f r'=putR R f r':=by funext k;unfold putR;split <;> rfl
theorem RPV.push {w w1:World}{B q:Nat}{vT:Value}{R:Nat→Rw} (h:RPV w B q vT R) (f:Nat) (r:Rw) (hr:R f=r) (hf:1≤f∧f≤4) {g cap n:Nat}{xs:List Value} (hgrow:w.grownBy w1 r.v.ownBlock)
  (hown:w1.ownsRow B r.e r.sz (.slice (some ⟨g,0,none⟩) n cap) n xs) (hat:r.v.ownBlock=some g∨w.heap.size≤g) :
  RPV (w1.setCell ⟨q,f,none⟩ (.slice (some ⟨g,0,none⟩) n cap)) B q vT (putR R f ⟨.slice (some ⟨g,0,none⟩) n cap,r.e,r.sz,n,xs⟩):=by
 subst hr
 have gq:g≠q:=by
  rcases hat with hg | hg
  ·rintro rfl;exact h.nq f hg
  ·have:=h.lt;omega
 have hg2:w1.grownBy (w1.setCell ⟨q,f,none⟩ (.slice (some ⟨g,0,none⟩) n cap)) (some q):=⟨rfl,rfl,rfl,by simp,fun k _ hk=>heap_setCell_other w1 ⟨q,f,none⟩ k _ (fun e=>hk (by simp [e]))⟩
 have hbb:w1.heap[q]? = w.heap[q]?:=hgrow.block q h.lt (Ne.symm (h.nq f))
 have hnew:∀ f',f'≠f→∀ k,(R f').v.ownBlock=some k→k≠g:=by
  intro f' hne k hk
  rcases hat with hg | hg
  ·rintro rfl;exact h.dis f' f k hne hk hg
  ·have:=((h.own f').lt k hk).2;omega
 refine ⟨?_,?_,fun f'=>?_,fun f'=>?_,fun f1 f2 k hne=>?_⟩
 ·have:=hgrow.size;have:=h.lt;simp;omega
 ·rw [heap_setCell_same w1 q f _ _ _ (hbb.trans h.blk)]
  obtain ⟨h1,h4⟩:=hf
  have hc:f=1∨f=2∨f=3∨f=4:=by omega
  rcases hc with rfl | rfl | rfl | rfl <;> rfl
 ·unfold putR
  split
  ·exact hown.kept hg2 (.inr (by simp [Value.ownBlock,gq]))
  ·rename_i hne
   refine ((h.own f').kept hgrow ?_).kept hg2 (.inr (h.nq f'))
   cases hv:(R f').v.ownBlock with
   | none=>exact .inl rfl
   | some k=>exact .inr (fun e=>h.dis f' f k hne hv e.symm)
 ·unfold putR
  split
  ·simp [Value.ownBlock,gq]
  ·exact h.nq f'
 ·unfold putR
  split
  ·rename_i e1
   rw [if_neg (fun e2=>hne (e1.trans e2.symm))]
   intro hk h2
   have:g=k:=by simpa [Value.ownBlock] using hk
   exact hnew f2 (fun e2=>hne (e1.trans e2.symm)) k h2 this.symm
  ·rename_i e1
   intro hk
   split
   ·intro h2
    have:g=k:=by simpa [Value.ownBlock] using h2
    exact hnew f1 e1 k hk this.symm
   ·exact h.dis f1 f2 k hne hk
def R0:Nat→Rw:=fun f=>if f=1 then ⟨.slice none 0 0,3,1,0,[]⟩ else ⟨.slice none 0 0,106,6,0,[]⟩
theorem R0_nil (f:Nat):(putR R0 1 ⟨.slice none 0 0,3,1,0,[]⟩ f).v = .slice none 0 0∧(putR R0 1 ⟨.slice none 0 0,3,1,0,[]⟩ f).n=0∧(putR R0 1 ⟨.slice none 0 0,3,1,0,[]⟩ f).xs=[]:=by
 unfold putR R0
 split
 ·exact ⟨rfl,rfl,rfl⟩
 ·exact ⟨rfl,rfl,rfl⟩
def RRw (n:Nat) (xs:List Value) (v vA vI vQ:Value) (A I Q:List RDc):Nat→Rw:=fun f=>
 if f=1 then ⟨v,3,1,n,xs⟩ else if f=2 then ⟨vA,106,6,A.length,rdCells A⟩ else if f=3 then ⟨vI,106,6,I.length,rdCells I⟩
 else if f=4 then ⟨vQ,106,6,Q.length,rdCells Q⟩ else ⟨.slice none 0 0,106,6,0,[]⟩
theorem RRw_put2 (n:Nat) (xs:List Value) (v vA vI vQ u:Value) (A I Q:List RDc) (d:RDc):putR (RRw n xs v vA vI vQ A I Q) 2 ⟨u,106,6,A.length+1,rdCells A ++ d.cells⟩=RRw n xs v u vI vQ (A ++ [d]) I Q:=by
 funext f;unfold putR RRw
 by_cases h:f=2
 ·subst h;simp [rdCells_snoc]
 ·rw [if_neg h];simp [h]
theorem RRw_put3 (n:Nat) (xs:List Value) (v vA vI vQ u:Value) (A I Q:List RDc) (d:RDc):putR (RRw n xs v vA vI vQ A I Q) 3 ⟨u,106,6,I.length+1,rdCells I ++ d.cells⟩=RRw n xs v vA u vQ A (I ++ [d]) Q:=by
 funext f;unfold putR RRw
 by_cases h:f=3
 ·subst h;simp [rdCells_snoc]
 ·rw [if_neg h];simp [h]
theorem RRw_put4 (n:Nat) (xs:List Value) (v vA vI vQ u:Value) (A I Q:List RDc) (d:RDc):putR (RRw n xs v vA vI vQ A I Q) 4 ⟨u,106,6,Q.length+1,rdCells Q ++ d.cells⟩=RRw n xs v vA vI u A I (Q ++ [d]):=by
 funext f;unfold putR RRw
 by_cases h:f=4
 ·subst h;simp [rdCells_snoc]
 ·rw [if_neg h];simp [h]
theorem RRw_start (n:Nat) (xs:List Value) (v:Value):putR R0 1 ⟨v,3,1,n,xs⟩=RRw n xs v (.slice none 0 0) (.slice none 0 0) (.slice none 0 0) [] [] []:=by
 funext f;unfold putR R0 RRw
 by_cases h:f=1
 ·simp [h]
 ·rw [if_neg h,if_neg h,if_neg h]
  by_cases h2:f=2
  ·simp [h2,rdCells]
  ·by_cases h3:f=3
   ·simp [h3,rdCells]
   ·by_cases h4:f=4
    ·simp [h4,rdCells]
    ·simp [h2,h3,h4]
structure St (w0 W:World) (q N:Nat) (vT:Value) (R:Nat→Rw) (d:RDc):Prop where
 rp:RPV W w0.heap.size q vT R
 blk:W.heap[N]? = some (.cells #[.string d.name,.int .i64 (d.tok:Int),.bool d.input,.bool d.truth,.int .i64 (d.place:Int),.int .i64 (d.body:Int)] 106)
 nq:N≠q
 nr:∀ f,(R f).v.ownBlock≠some N
 bel:Below w0.heap.size w0 W
 q0:w0.heap.size≤q
theorem St.push {w0 W w3:World}{q N:Nat}{vT:Value}{R:Nat→Rw}{d:RDc} (h:St w0 W q N vT R d) (f:Nat) (r:Rw) (hr:R f=r) (hf:1≤f∧f≤4) (o:Obj) {g cap n:Nat}{xs:List Value}
  (hgrow:(W.alloc o).drew.grownBy w3 r.v.ownBlock) (hown:w3.ownsRow w0.heap.size r.e r.sz (.slice (some ⟨g,0,none⟩) n cap) n xs) (hat:r.v.ownBlock=some g∨g=W.heap.size+1) :
  St w0 (w3.setCell ⟨q,f,none⟩ (.slice (some ⟨g,0,none⟩) n cap)) q N vT (putR R f ⟨.slice (some ⟨g,0,none⟩) n cap,r.e,r.sz,n,xs⟩) d:=by
 have hlt:N<W.heap.size:=by
  rcases Nat.lt_or_ge N W.heap.size with hl | hg
  ·exact hl
  ·have:=h.blk;rw [Array.getElem?_eq_none hg] at this;cases this
 have hNr:r.v.ownBlock≠some N:=hr ▸ h.nr f
 have hgN:g≠N:=by
  rcases hat with hg | hg
  ·rintro rfl;exact hNr hg
  ·omega
 have hb:Below W.heap.size W (W.alloc o).drew:=((Below.refl _ _).alloc (Nat.le_refl _) o).drew
 have hsz:(W.alloc o).drew.heap.size=W.heap.size+1:=by simp
 have hbe:∀ k,r.v.ownBlock=some k→w0.heap.size≤k:=fun k hk=>((hr ▸ h.rp.own f:W.ownsRow w0.heap.size r.e r.sz r.v r.n r.xs).lt k hk).1
 refine ⟨(h.rp.below hb).push f r hr hf hgrow hown (hat.imp id (fun e=>by rw [hsz];omega)),?_,h.nq,fun f'=>?_,?_,h.q0⟩
 ·rw [heap_setCell_other w3 ⟨q,f,none⟩ N _ h.nq,hgrow.block N (by rw [hsz];omega) (Ne.symm hNr)]
  rw [hb.block N hlt];exact h.blk
 ·unfold putR
  split
  ·simp [Value.ownBlock,hgN]
  ·exact h.nr f'
 ·refine Below.setCell ?_ h.q0 _
  exact (h.bel.trans (hb.mono h.bel.size)).grown hgrow (by rw [hsz];have:=h.bel.size;omega) (fun j hj=>hbe j hj)
theorem St.cells {w0 W:World}{q N:Nat}{vT:Value}{R:Nat→Rw}{d:RDc} (h:St w0 W q N vT R d) :
  N<W.heap.size∧q<W.heap.size∧(W.cell? ⟨N,0,none⟩=some (.string d.name)∧W.cell? ⟨N,1,none⟩=some (.int .i64 (d.tok:Int))∧W.cell? ⟨N,2,none⟩=some (.bool d.input)∧W.cell? ⟨N,3,none⟩=some (.bool d.truth)∧W.cell? ⟨N,4,none⟩=some (.int .i64 (d.place:Int))∧W.cell? ⟨N,5,none⟩=some (.int .i64 (d.body:Int))):=by
 have hlt:N<W.heap.size:=by
  rcases Nat.lt_or_ge N W.heap.size with hl | hg
  ·exact hl
  ·have:=h.blk;rw [Array.getElem?_eq_none hg] at this;cases this
 exact ⟨hlt,h.rp.lt,cell_of_row W N 0 _ _ _ h.blk,cell_of_row W N 1 _ _ _ h.blk,cell_of_row W N 2 _ _ _ h.blk,cell_of_row W N 3 _ _ _ h.blk,cell_of_row W N 4 _ _ _ h.blk,cell_of_row W N 5 _ _ _ h.blk⟩
theorem St.row {w0 W:World}{q N:Nat}{vT:Value}{R:Nat→Rw}{d:RDc} (h:St w0 W q N vT R d) (f:Nat) (r:Rw) (hr:R f=r) (hf:1≤f∧f≤4) :
  (∀ o,(W.alloc o).cell? ⟨q,f,none⟩=some r.v)∧(∀ o,(W.alloc o).frozen? ⟨q,f,none⟩=false)∧W.cell? ⟨q,f,none⟩=some r.v∧W.frozen? ⟨q,f,none⟩=false∧W.ownsRow w0.heap.size r.e r.sz r.v r.n r.xs∧r.v.ownBlock≠some q:=by
 subst hr
 have c:W.cell? ⟨q,f,none⟩=some (R f).v:=by
  have hc:f=1∨f=2∨f=3∨f=4:=by omega
  rcases hc with rfl | rfl | rfl | rfl
  ·exact cell_of_row W q 1 _ _ _ h.rp.blk
  ·exact cell_of_row W q 2 _ _ _ h.rp.blk
  ·exact cell_of_row W q 3 _ _ _ h.rp.blk
  ·exact cell_of_row W q 4 _ _ _ h.rp.blk
 have fz:W.frozen? ⟨q,f,none⟩=false:=frozen_of_row W q f _ _ h.rp.blk
 exact ⟨fun o=>by rw [World.cell?_alloc_past _ _ _ h.rp.lt];exact c,fun o=>by rw [World.frozen?_alloc_past _ _ _ h.rp.lt];exact fz,c,fz,h.rp.own f,h.rp.nq f⟩
theorem St.below {w0 W W':World}{q N:Nat}{vT:Value}{R:Nat→Rw}{d:RDc} (h:St w0 W q N vT R d) (hb:Below W.heap.size W W'):St w0 W' q N vT R d:=by
 have hlt:=h.cells.1
 exact ⟨h.rp.below hb,(hb.block N hlt).trans h.blk,h.nq,h.nr,h.bel.trans (hb.mono h.bel.size),h.q0⟩
theorem St.poke {w0 W:World}{q N:Nat}{vT:Value}{R:Nat→Rw}{d:RDc} (h:St w0 W q N vT R d) (hN:w0.heap.size≤N) (tr:Bool) (pl bo:Nat) :
  St w0 (((W.setCell ⟨N,3,none⟩ (.bool tr)).setCell ⟨N,4,none⟩ (.int .i64 (pl:Int))).setCell ⟨N,5,none⟩ (.int .i64 (bo:Int))) q N vT R ⟨d.name,d.tok,d.input,tr,pl,bo⟩:=by
 have keep:∀ (W:World) (k:Nat) (u:Value),RPV W w0.heap.size q vT R→RPV (W.setCell ⟨N,k,none⟩ u) w0.heap.size q vT R:=fun W k u hr=>
  ⟨by have:=hr.lt;simpa using this,(heap_setCell_other W ⟨N,k,none⟩ q _ (Ne.symm h.nq)).trans hr.blk,
   fun f=>(hr.own f).kept (row:=some N) ⟨rfl,rfl,rfl,by simp,fun j _ hj=>heap_setCell_other W ⟨N,k,none⟩ j _ (fun e=>hj (by simp [e]))⟩ (.inr (h.nr f)),hr.nq,hr.dis⟩
 refine ⟨keep _ _ _ (keep _ _ _ (keep _ _ _ h.rp)),?_,h.nq,h.nr,((h.bel.setCell hN _).setCell hN _).setCell hN _,h.q0⟩
 rw [heap_setCell_same _ N 5 _ _ _ (heap_setCell_same _ N 4 _ _ _ (heap_setCell_same _ N 3 _ _ _ h.blk))]
 rfl
structure RProg (w:World) (q g cap:Nat) (ts:List Tk) (L:List Dl) (vE vA vI vQ:Value):Prop where
 lt:q<w.heap.size
 c0:w.cell? ⟨q,0,none⟩=some (.slice (some ⟨g,0,none⟩) ts.length cap)
 c1:w.cell? ⟨q,1,none⟩=some vE
 c2:w.cell? ⟨q,2,none⟩=some vA
 c3:w.cell? ⟨q,3,none⟩=some vI
 c4:w.cell? ⟨q,4,none⟩=some vQ
 toks:TokAt w g cap ts
 ends:w.ownsRow 0 3 1 vE ts.length (pCells ((List.range ts.length).map (behindF ts)))
 all:w.ownsRow 0 106 6 vA L.length (rdCells (L.map (rdc ts)))
 ins:w.ownsRow 0 106 6 vI (inL L).length (rdCells ((inL L).map (rdc ts)))
 eqs:w.ownsRow 0 106 6 vQ (eqL L).length (rdCells ((eqL L).map (rdc ts)))
theorem RProg.below {w w':World}{q g cap:Nat}{ts:List Tk}{L:List Dl}{vE vA vI vQ:Value} (h:RProg w q g cap ts L vE vA vI vQ) (hb:Below w.heap.size w w'):RProg w' q g cap ts L vE vA vI vQ:=
 ⟨Nat.lt_of_lt_of_le h.lt hb.size,(hb.cell h.lt).trans h.c0,(hb.cell h.lt).trans h.c1,(hb.cell h.lt).trans h.c2,(hb.cell h.lt).trans h.c3,(hb.cell h.lt).trans h.c4,h.toks.below hb,bel_own h.ends hb,bel_own h.all hb,bel_own h.ins hb,bel_own h.eqs hb⟩
abbrev RDc.val (d:RDc):Value:=.agg #[.string d.name,.int .i64 (d.tok:Int),.bool d.input,.bool d.truth,.int .i64 (d.place:Int),.int .i64 (d.body:Int)]
theorem rd_later {w wr:World}{g cap:Nat}{ts:List Tk}{l:List Dl} (h:w.ownsRow 0 106 6 (.slice (some ⟨g,0,none⟩) l.length cap) l.length (rdCells (l.map (rdc ts)))) (hb:Below w.heap.size w wr) (hg:g<w.heap.size) {k:Nat} (hk:k<l.length) (a:RDc) (ha:a=rdc ts (l[k]'hk)) :
  wr.cell? ⟨g,k * 6,none⟩=some (.string a.name)∧wr.cell? ⟨g,k * 6+1,none⟩=some (.int .i64 (a.tok:Int))∧wr.cell? ⟨g,k * 6+2,none⟩=some (.bool a.input)∧wr.cell? ⟨g,k * 6+3,none⟩=some (.bool a.truth)∧
  wr.cell? ⟨g,k * 6+4,none⟩=some (.int .i64 (a.place:Int))∧wr.cell? ⟨g,k * 6+5,none⟩=some (.int .i64 (a.body:Int)):=by
 have hcr:∀ j,j<6→wr.cell? ⟨g,k * 6+j,none⟩=a.cells[j]?:=fun j hj=>by
  rw [hb.cell (p:=⟨g,k * 6+j,none⟩) hg,h.cellAt (k * 6+j) (by omega)]
  have e:=flat_get RDc.cells 6 rd_len (l.map (rdc ts)) k j (by simpa using hk) hj
  rw [List.getElem_map,← ha] at e
  exact e
 exact ⟨hcr 0 (by omega),hcr 1 (by omega),hcr 2 (by omega),hcr 3 (by omega),hcr 4 (by omega),hcr 5 (by omega)⟩
theorem end_later {w wr:World}{g cap:Nat}{ts:List Tk} (h:w.ownsRow 0 3 1 (.slice (some ⟨g,0,none⟩) ts.length cap) ts.length (pCells ((List.range ts.length).map (behindF ts)))) (hb:Below w.heap.size w wr) (hg:g<w.heap.size) {k:Nat} (hk:k<ts.length) :
  wr.cell? ⟨g,k,none⟩=some (.int .i64 (behindF ts k:Nat)):=by
 rw [hb.cell (p:=⟨g,k,none⟩) hg,h.cellAt k (by omega)]
 unfold pCells
 rw [List.getElem?_map,List.getElem?_map,List.getElem?_range hk]
 rfl
set_option maxHeartbeats 1000000 in
theorem rplace_any (w:World) (q g cap:Nat) (ts:List Tk) (L:List Dl) (vE vA vI vQ:Value) (h:RProg w q g cap ts L vE vA vI vQ) (d:RDc) (hd:d.tok<ts.length) :
  Calls Tryz.prog 73 #[.pointer (some ⟨q,0,none⟩),d.val] w fun e w'=>e = .returned (.int .i64 ((tkAt ts d.tok).pos:Nat))∧Below w.heap.size w w':=by
 have c0:∀ o,(w.alloc o).cell? ⟨q,0,none⟩=some (.slice (some ⟨g,0,none⟩) ts.length cap):=fun o=>by rw [World.cell?_alloc_past _ _ _ h.lt];exact h.c0
 obtain ⟨a,ha⟩:∃ a,a=rtok (tkAt ts d.tok):=⟨_,rfl⟩
 have x2:∀ o,(w.alloc o).cell? ⟨g,d.tok * 4+2,none⟩=some (.int .i64 (a.pos:Int)):=fun o=>by
  rw [World.cell?_alloc_past _ _ _ h.toks.lt];exact (h.toks.cells (Below.refl _ _) hd a ha).2.2.1
 have HP:Hid ((tkAt ts d.tok).pos=a.pos):=hide (by rw [ha];rfl)
 have j1:(0:Int)≤(d.tok:Int):=by omega
 have j2:(d.tok:Int)<(ts.length:Int):=by omega
 clear h ha
 go_enter Tryz.func73,Tryz.ntmps73
 go_wp2_with fail
 go_quiet (fail)
 go_wp2
 go_ret
 exact ⟨by rw [HP.out];rfl,below_drewN ((Below.refl _ _).alloc (Nat.le_refl _) _) _⟩
def optI (o:Option Nat):Value:=.int .i64 (match o with | some a=>(a:Int) | none=>-1)
end Go.Proofs.YtmndgoapkmhglabGreat
