import Derived.Test.YtecegaflhdgfaaaGreatM06StrB
namespace Go.Proofs.YtecegaflhdgfaaaGreat
structure OpF where
 k:Int
 a:Int
 b:Int
 c:Int
structure CdF where
 ops:List OpF
 cells:List Int
 next:List Int
 out:List Int
def atF (l:List Int) (i:Int):Int:=if i<0 then 0 else l.getD i.toNat 0
def readsF (k:Int):Nat:=if k<5 then 0 else if k=13 then 1 else if k=14 then 3 else 2
def regOk (i:Nat) (r:Int):Bool:=decide (0≤r) && decide (r<(i:Int))
def opArgs (o:OpF):List Int:=[o.a,o.b,o.c]
def opOk (nc i:Nat) (o:OpF):Bool:=
 decide (0≤o.k) && decide (o.k≤14) && (decide (o.k≠3) || regOk nc o.a) && ((opArgs o).take (readsF o.k)).all (regOk i)
def opsOk (nc:Nat):Nat→List OpF→Bool
 | _,[]=>true
 | i,o :: r=>opOk nc i o && opsOk nc (i+1) r
def formedF (c:CdF):Bool:=
 decide (c.ops.length≤1500) && decide (c.next.length≤1500) && decide (c.out.length≤1500) && decide (c.cells.length=c.next.length) && opsOk c.cells.length 0 c.ops && c.next.all (regOk c.ops.length) && c.out.all (regOk c.ops.length)
def laysF (o:OpF) (n:Int) (regs cells ins links:List Int):Int:=
 if o.k=0 then o.a else if o.k=1 then atF ins o.a else if o.k=2 then atF links o.a else if o.k=3 then atF cells o.a else if o.k=4 then b2i (decide (n=0))
 else if o.k=5 then w64 (atF regs o.a+atF regs o.b) else if o.k=6 then w64 (atF regs o.a - atF regs o.b) else if o.k=7 then w64 (atF regs o.a * atF regs o.b)
 else if o.k=8 then apF [47] (atF regs o.a) (atF regs o.b) else if o.k=9 then b2i (decide (atF regs o.a<atF regs o.b)) else if o.k=10 then b2i (decide (atF regs o.a=atF regs o.b))
 else if o.k=11 then b2i (decide (atF regs o.a≠0) && decide (atF regs o.b≠0)) else if o.k=12 then b2i (decide (atF regs o.a≠0) || decide (atF regs o.b≠0))
 else if o.k=13 then b2i (decide (atF regs o.a=0)) else if atF regs o.a=0 then atF regs o.c else atF regs o.b
def regsF (n:Int) (cells ins links:List Int) (regs:List Int):List OpF→List Int
 | []=>regs
 | o :: r=>regsF n cells ins links (regs ++ [laysF o n regs cells ins links]) r
theorem regsF_snoc (n:Int) (cells ins links:List Int):∀ (l:List OpF) (regs:List Int) (o:OpF),regsF n cells ins links regs (l ++ [o])=regsF n cells ins links regs l ++ [laysF o n (regsF n cells ins links regs l) cells ins links]:=by
 intro l
 induction l with
 | nil=>intro regs o;rfl
 | cons a r ih=>intro regs o;exact ih _ o
theorem regsF_len (n:Int) (cells ins links:List Int):∀ (l:List OpF) (regs:List Int),(regsF n cells ins links regs l).length=regs.length+l.length:=by
 intro l
 induction l with
 | nil=>intro regs;rfl
 | cons a r ih=>intro regs;show (regsF _ _ _ _ _ r).length=_;rw [ih];simp;omega
def execF (c:CdF) (n:Int) (cells ins links:List Int):Nat × List Int × List Int:=
 if formedF c=false then (9,[],[]) else if n<0∨cells.length≠c.cells.length then (10,[],[])
 else (0,c.out.map (atF (regsF n cells ins links [] c.ops)),c.next.map (atF (regsF n cells ins links [] c.ops)))
theorem text_read (s:ByteArray) (hs:s.size≤1500) :
  (∃ k,k<(toks s).length∧textF s=(2,(tkAt (toks s) k).pos)∧∃ n,Ans (toks s) n [80] 0 0 ((tkAt (toks s) k).pos:Int))∨
  (∃ L,Spell (toks s) L 0∧(∃ n,Ans (toks s) n [80] 0 0 (-1))∧textF s=readR (toks s) L∧∃ p,parseF s = .ok p∧p.decls=declsD (toks s) L 0 0 0∧p.nodes=nodesD (toks s) L 0):=by
 obtain ⟨hok,hbad⟩:=parseA s hs
 unfold textF
 rw [if_neg (by omega)]
 cases hp:parseF s with
 | error k=>
  obtain ⟨h1,h2⟩:=hbad k hp
  exact .inl ⟨k,h1,rfl,h2⟩
 | ok p=>
  obtain ⟨L,h1,h2,h3,h4⟩:=hok p hp
  refine .inr ⟨L,h1,h4,?_,p,rfl,h2,h3⟩
  show meaningF p.decls (boundN p)=_
  unfold boundN
  rw [h2,h3]
  exact meaning_ref (toks_F s) (toks_pos s) (toks_end s) L h1 (toks_ok s hs).pos
structure RGood (s:ByteArray) (L:List Dl):Prop where
 many:manyR (toks s) L=none
 names:namesR (toks s) L=none
 types:typesR (toks s) L=none
 cyc:cycR (toks s) L=none
 lp:lpR (toks s) L=none
 sp:Spell (toks s) L 0
 parse:∃ p,parseF s = .ok p∧p.decls=declsD (toks s) L 0 0 0∧p.nodes=nodesD (toks s) L 0
theorem spell_lt {ts:List Tk}:∀ (L:List Dl) (i:Nat),Spell ts L i→L.Pairwise (fun x y=>x.i+x.len≤y.i):=by
 intro L
 induction L with
 | nil=>intro i _;exact List.Pairwise.nil
 | cons x r ih=>
  intro i h
  obtain ⟨_,h2,_,_,_,h6⟩:=spell_mid (L2:=r) [] i h
  exact List.Pairwise.cons h2 (ih _ h6)
end Go.Proofs.YtecegaflhdgfaaaGreat
namespace Go.Proofs.YtecegaflhdgfaaaGreat
open Go.RowKit
def atG (ts:List Tk) (L:List Dl) (pl:Int) (m:Nat):List Nat:=(List.range m).filter fun i=>(((eqL L)[i]?).map fun x=>((placeD ts x:Nat):Int) == pl) == some true
def atR (ts:List Tk) (L:List Dl) (pl:Int):List Nat:=atG ts L pl (eqL L).length
theorem atG_len (ts:List Tk) (L:List Dl) (pl:Int) (m:Nat):(atG ts L pl m).length≤m:=by
 have:=List.length_filter_le (fun i=>(((eqL L)[i]?).map fun x=>((placeD ts x:Nat):Int) == pl) == some true) (List.range m)
 rwa [List.length_range] at this
theorem atG_hit {ts:List Tk}{L:List Dl}{pl:Int}{m:Nat} (hm:m<(eqL L).length) (h:((placeD ts ((eqL L)[m]):Nat):Int)=pl):atG ts L pl (m+1)=atG ts L pl m ++ [m]:=by
 unfold atG
 rw [List.range_succ,List.filter_append]
 congr 1
 simp [hm,h]
theorem atG_miss {ts:List Tk}{L:List Dl}{pl:Int}{m:Nat} (hm:m<(eqL L).length) (h:((placeD ts ((eqL L)[m]):Nat):Int)≠pl):atG ts L pl (m+1)=atG ts L pl m:=by
 unfold atG
 rw [List.range_succ,List.filter_append]
 simp [hm,h]
end Go.Proofs.YtecegaflhdgfaaaGreat
namespace Go.Proofs.YtecegaflhdgfaaaGreat
def fbyT (ts:List Tk) (b n:Nat):Nat:=((List.range' b n).filter fun j=>lAt ts j == kFby).length
def dlyG (ts:List Tk) (pl:Int):List Dl→Nat
 | []=>0
 | x :: r=>(if ((placeD ts x:Nat):Int)=pl then fbyT ts (x.i+5) x.t.len else 0)+dlyG ts pl r
def delaysR (ts:List Tk) (L:List Dl) (pl:Int):Nat:=dlyG ts pl (eqL L)
def nowL (L:List Dl) (ins:List (List Int)) (k:Nat):List Int:=(List.range (inL L).length).map fun i=>elemF ins i k
def givF (F:Nat→Nat→Int) (k:Nat) (junk:Int) (r:Rt):Int:=if r.late=false then F r.src k else if 0<k then F r.src (k - 1) else junk
def givL (F:Nat→Nat→Int) (pl:Int) (k:Nat) (junk:Int) (l:List Rt):List Int:=(l.filter fun r=>((r.dst:Nat):Int) == pl).map (givF F k junk)
def givenR (ts:List Tk) (L:List Dl) (F:Nat→Nat→Int) (pl:Int) (k:Nat) (junk:Int):List Int:=givL F pl k junk (routesR ts L)
def cellsS (c:CdF) (I K:Nat→List Int):Nat→List Int
 | 0=>c.cells
 | k+1=>(execF c (k:Int) (cellsS c I K k) (I k) (K k)).2.2
structure StepOk (ts:List Tk) (L:List Dl) (pl:Int) (c:CdF) (size:Nat):Prop where
 formed:formedF c=true
 ops:c.ops.length≤size
 out:c.out.length=(atR ts L pl).length
 cells:c.cells.length≤delaysR ts L pl
 play:∀ (ins:List (List Int)) (junk:Int) (k i j:Nat),(atR ts L pl)[i]? = some j→
  ((execF c (k:Int) (cellsS c (nowL L ins) (fun k=>givenR ts L (sol ts L ins) pl k junk) k) (nowL L ins k) (givenR ts L (sol ts L ins) pl k junk)).2.1)[i]? = some (sol ts L ins j k)
theorem exec_ok {c:CdF} (hf:formedF c=true) {n:Int} (hn:0≤n) {cells:List Int} (hc:cells.length=c.cells.length) (ins links:List Int):(execF c n cells ins links).1=0∧(execF c n cells ins links).2.2.length=c.cells.length∧(execF c n cells ins links).2.1.length=c.out.length:=by
 unfold execF
 rw [if_neg (by rw [hf];decide),if_neg (by omega)]
 refine ⟨rfl,?_,by simp⟩
 have:=hf
 unfold formedF at this
 simp only [Bool.and_eq_true,decide_eq_true_eq] at this
 obtain ⟨⟨⟨⟨_,h4⟩,_⟩,_⟩,_⟩:=this
 simp [h4]
theorem cellsS_len {c:CdF} (hf:formedF c=true) (I K:Nat→List Int):∀ k,(cellsS c I K k).length=c.cells.length:=by
 intro k
 induction k with
 | zero=>rfl
 | succ k ih=>exact (exec_ok hf (by omega) ih _ _).2.1
theorem fbyT_succ (ts:List Tk) (b n:Nat):fbyT ts b (n+1)=fbyT ts b n+(if lAt ts (b+n)=kFby then 1 else 0):=by
 unfold fbyT
 rw [range_split,List.filter_append,List.length_append]
 congr 1
 by_cases h:lAt ts (b+n)=kFby
 ·simp [List.range',h]
 ·simp [List.range',h]
theorem fbyT_le (ts:List Tk) (b n:Nat):fbyT ts b n≤n:=by
 unfold fbyT
 have:=List.length_filter_le (fun j=>lAt ts j == kFby) (List.range' b n)
 rwa [List.length_range'] at this
end Go.Proofs.YtecegaflhdgfaaaGreat
