import Derived.Test.YtmndgoapkmhglaaGreatM02Bytes
import Derived.Test.YtmndgoapkmhglaaGreatM09ParN
namespace Go.Proofs.YtmndgoapkmhglaaGreat
def usesSeg (decl:Nat):List Nd→Bool→Bool→Bool × Bool
 | [],u,p=>(u,p)
 | n :: r,u,p=>if n.kind=2∧n.decl=(decl:Int) then usesSeg decl r true (p || !n.behind) else usesSeg decl r u p
def usesAll (ns:List Nd) (decl place:Nat):List Dc→Bool→Bool→Bool × Bool
 | [],u,p=>(u,p)
 | d :: r,u,p=>if d.kind=0∨d.place≠place then usesAll ns decl place r u p
   else usesAll ns decl place r (usesSeg decl (seg ns d.root d.fin) u p).1 (usesSeg decl (seg ns d.root d.fin) u p).2
def usesF (ds:List Dc) (ns:List Nd) (decl place:Nat):Bool × Bool:=usesAll ns decl place ds false false
structure Rt where
 src:Nat
 dst:Nat
 late:Bool
def linkAt (ds:List Dc) (ns:List Nd) (i:Nat) (d:Dc) (q:Nat):List Rt:=
 if (usesF ds ns i q).1=true∧q≠d.place then [⟨d.number,q,!(usesF ds ns i q).2⟩] else []
def linksTo (ds:List Dc) (ns:List Nd) (i:Nat) (d:Dc):Nat→List Rt
 | 0=>[]
 | q+1=>linksTo ds ns i d q ++ linkAt ds ns i d q
def linksFrom (ds:List Dc) (ns:List Nd):Nat→List Dc→List Rt
 | _,[]=>[]
 | i,d :: r=>(if d.kind=0 then [] else linksTo ds ns i d 4) ++ linksFrom ds ns (i+1) r
def linksF (ds:List Dc) (ns:List Nd):List Rt:=linksFrom ds ns 0 ds
def eqsF (ds:List Dc):List Dc:=ds.filter fun d=>d.kind != 0
def waitsM (es:List Dc):List Rt→Mx→Mx
 | [],M=>M
 | r :: l,M=>waitsM es l (if r.late=true then M else upd M r.dst (es.getD r.src ⟨0,0,⟨#[]⟩,0,0,0,0⟩).place true)
def firstAt (M:Mx):List Dc→Option Nat
 | []=>none
 | d :: r=>if M d.place d.place then some d.pos else firstAt M r
def loopF (ds:List Dc) (ns:List Nd):Option Nat:=firstAt (warsh (waitsM (eqsF ds) (linksF ds ns) noM) 4) (eqsF ds)
theorem linksTo_len (ds:List Dc) (ns:List Nd) (i:Nat) (d:Dc):∀ q,(linksTo ds ns i d q).length≤q:=by
 intro q
 induction q with
 | zero=>simp [linksTo]
 | succ q ih=>
  simp only [linksTo,List.length_append,linkAt]
  split <;> simp <;> omega
def meaningF (ds:List Dc) (ns:List Nd):Nat × Nat:=
 match tooManyF ds with
 | some a=>(3,a)
 | none=>match badNameF ds ns 0 ds with
  | some a=>(4,a)
  | none=>match badTypeF ds 0 ns (roots ds (List.replicate ns.length false)) with
   | some a=>(5,a)
   | none=>match cycleF ds ns with
    | some a=>(6,a)
    | none=>match loopF ds ns with
     | some a=>(7,a)
     | none=>(0,0)
structure Good (ds:List Dc) (ns:List Nd):Prop where
 wf:ProgWf ds ns
 names:badNameF ds ns 0 ds=none→∀ n∈ns,n.kind=2→0≤n.decl
 links:∀ r∈linksF ds ns,r.src<(eqsF ds).length∧r.dst<4
 many:(linksF ds ns).length≤6100
def boundN (p:PS):List Nd:=p.nodes.map (bindF p.decls)
def textF (s:ByteArray):Nat × Nat:=
 if 1500<s.size then (1,0)
 else match parseF s with
  | .error k=>(2,(tkAt (toks s) k).pos)
  | .ok p=>meaningF p.decls (boundN p)
structure NdOk (N i:Nat) (n:Nd):Prop where
 kind:n.kind≤6
 a:n.a<N
 b:n.b<N
 c:n.c<N
 k3:n.kind=3→i<n.a
 k4:n.kind=4→i<n.a∧n.a<n.b∧n.b<n.c
 k5:n.kind=5∨n.kind=6→i<n.a∧n.a<n.b
theorem NdOk.mono {N M i:Nat}{n:Nd} (h:NdOk N i n) (hm:N≤M):NdOk M i n:=
 ⟨h.kind,Nat.lt_of_lt_of_le h.a hm,Nat.lt_of_lt_of_le h.b hm,Nat.lt_of_lt_of_le h.c hm,h.k3,h.k4,h.k5⟩
def NInv (ns:List Nd):Prop:=∀ (i:Nat) (n:Nd),ns[i]? = some n→NdOk ns.length i n
structure Grow (p p':PS):Prop where
 decls:p'.decls=p.decls
 nodes:∃ l,p'.nodes=p.nodes ++ l
 inv:NInv p.nodes→NInv p'.nodes
theorem Grow.trans {p q r:PS} (h:Grow p q) (k:Grow q r):Grow p r:=by
 obtain ⟨l,hl⟩:=h.nodes
 obtain ⟨m,hm⟩:=k.nodes
 exact ⟨k.decls.trans h.decls,⟨l ++ m,by rw [hm,hl,List.append_assoc]⟩,fun x=>k.inv (h.inv x)⟩
theorem Grow.of {p q:PS} (h1:q.decls=p.decls) (h2:q.nodes=p.nodes):Grow p q:=⟨h1,⟨[],by simp [h2]⟩,fun h=>by rw [h2];exact h⟩
theorem Grow.adv (ts:List Tk) (p:PS):Grow p (p.adv ts):=Grow.of (by simp) (by simp)
theorem Grow.len {p q:PS} (h:Grow p q):p.nodes.length≤q.nodes.length:=by
 obtain ⟨l,hl⟩:=h.nodes;rw [hl];simp
theorem NInv.push {ns:List Nd}{n:Nd} (h:NInv ns) (hn:NdOk (ns.length+1) ns.length n):NInv (ns ++ [n]):=by
 intro i m hm
 rw [List.length_append,List.length_singleton]
 rw [List.getElem?_append] at hm
 split at hm
 ·exact (h i m hm).mono (by omega)
 ·rename_i hi
  cases e:i - ns.length with
  | zero=>
   rw [e] at hm
   cases hm
   have:i=ns.length:=by omega
   subst this
   exact hn
  | succ j=>rw [e] at hm;simp at hm
theorem take_grow {ts:List Tk}{p p':PS}{l:List UInt8} (h:p.take ts l = .ok p'):p'=p.adv ts∧(p.hd ts).l=l:=by
 unfold PS.take at h
 split at h
 ·rename_i hl;cases h;exact ⟨rfl,hl⟩
 ·cases h
def ExN (ex:Ex):Prop:=∀ p r p',ex p = .ok (r,p')→Grow p p'∧r=p.nodes.length∧r<p'.nodes.length
theorem insideN {ts:List Tk}{ex:Ex} (hx:ExN ex) {p p':PS}{n n':Nd}{i:Nat} (hi:i<p.nodes.length) (h0:n.b=0) (h1:n.c=0) (he:insideF ts ex p n = .ok (n',p')) :
  Grow p p'∧NdOk p'.nodes.length i n':=by
 unfold insideF at he
 split at he
 ·unfold notF at he
  split at he
  ·cases he
  ·rename_i a p1 e1
   cases he
   obtain ⟨g1,ha,hb⟩:=hx _ _ _ e1
   rw [adv_nodes] at ha
   have:=g1.len
   rw [adv_nodes] at this
   exact ⟨(Grow.adv ts p).trans g1,⟨by simp,hb,by show n.b<_;omega,by show n.c<_;omega,fun _=>by show i<a;omega,fun h=>by simp at h,fun h=>by simp at h⟩⟩
 split at he
 ·unfold choiceF at he
  split at he
  ·cases he
  ·rename_i a p1 e1
   obtain ⟨g1,ha,hla⟩:=hx _ _ _ e1
   rw [adv_nodes] at ha
   split at he
   ·cases he
   ·rename_i b p2 e2
    obtain ⟨g2,hb,hlb⟩:=hx _ _ _ e2
    split at he
    ·cases he
    ·rename_i c p3 e3
     obtain ⟨g3,hc,hlc⟩:=hx _ _ _ e3
     cases he
     have l1:=g1.len
     have l2:=g2.len
     have l3:=g3.len
     rw [adv_nodes] at l1
     exact ⟨(((Grow.adv ts p).trans g1).trans g2).trans g3,⟨by simp,by show a<_;omega,by show b<_;omega,by show c<_;omega,fun h=>by simp at h,fun _=>⟨by show i<a;omega,by show a<b;omega,by show b<c;omega⟩,fun h=>by simp at h⟩⟩
 ·unfold infixF at he
  split at he
  ·cases he
  ·rename_i a p1 e1
   obtain ⟨g1,ha,hla⟩:=hx _ _ _ e1
   have l1:=g1.len
   split at he
   ·unfold delayF at he
    split at he
    ·cases he
    ·rename_i b p2 e2
     obtain ⟨g2,hb,hlb⟩:=hx _ _ _ e2
     cases he
     have hb':b=p1.nodes.length:=by rw [hb];show (p1.adv ts).nodes.length=_;rw [adv_nodes]
     have g:Grow p1 { p1.adv ts with delays:=(p1.adv ts).delays+1 }:=Grow.of (by simp) (by simp)
     refine ⟨((g1.trans g).trans g2).trans (Grow.of rfl rfl),⟨by simp,by show a<p2.nodes.length;omega,by show b<p2.nodes.length;omega,by show n.c<p2.nodes.length;omega,fun h=>by simp at h,fun h=>by simp at h,fun _=>⟨by show i<a;omega,by show a<b;omega⟩⟩⟩
   ·unfold infixRest at he
    split at he
    ·cases he
    ·rename_i op ho
     split at he
     ·cases he
     ·rename_i b p2 e2
      obtain ⟨g2,hb,hlb⟩:=hx _ _ _ e2
      cases he
      rw [adv_nodes] at hb
      refine ⟨(g1.trans (Grow.adv ts p1)).trans g2,⟨by simp,by show a<_;omega,by show b<_;omega,by show n.c<_;omega,fun h=>by simp at h,fun h=>by simp at h,fun _=>⟨by show i<a;omega,by show a<b;omega⟩⟩⟩
theorem leafN (ts:List Tk) (p:PS) (n:Nd) (hk:n.kind≤2) (ha:n.a=0) (hb:n.b=0) (hc:n.c=0) :
  Grow p (leafF ts p n).2∧(leafF ts p n).1=p.nodes.length∧(leafF ts p n).1<(leafF ts p n).2.nodes.length:=by
 unfold leafF
 refine ⟨?_,rfl,by simp [PS.add]⟩
 refine Grow.trans (q:=p.add ts n) ⟨rfl,⟨_,rfl⟩,fun h=>?_⟩ (Grow.adv ts _)
 refine NInv.push h ⟨by show n.kind≤6;omega,by show n.a<_;omega,by show n.b<_;omega,by show n.c<_;omega,fun h=>?_,fun h=>?_,fun h=>?_⟩
 ·have:n.kind=3:=h
  omega
 ·have:n.kind=4:=h
  omega
 ·have:n.kind=5∨n.kind=6:=h
  omega
theorem bracketN {ts:List Tk}{ex:Ex} (hx:ExN ex) {p p':PS}{r:Nat} (he:bracketF ts ex p = .ok (r,p')):Grow p p'∧r=p.nodes.length∧r<p'.nodes.length:=by
 unfold bracketF at he
 split at he
 ·cases he
 ·rename_i n p2 e2
  have hnd:(p.add ts ndZero).nodes.getD p.nodes.length ndZero = { ndZero with pos:=(p.hd ts).pos,delayed:=decide (0<p.delays),behind:=decide (0<p.next) && ((tkAt ts (p.next - 1)).l == kFby) }:=by
   simp [PS.add]
  have hlen1:({ (p.add ts ndZero).adv ts with depth:=p.depth+1 }:PS).nodes.length=p.nodes.length+1:=by simp [PS.add]
  obtain ⟨g2,hn⟩:=insideN hx (i:=p.nodes.length) (by rw [hlen1];omega) (by rw [hnd];rfl) (by rw [hnd];rfl) e2
  split at he
  ·cases he
  ·rename_i p3 e3
   obtain ⟨rfl,_⟩:=take_grow e3
   cases he
   obtain ⟨l,hl⟩:=g2.nodes
   have hl2:=g2.len
   rw [hlen1] at hl2
   refine ⟨?_,rfl,by simp;omega⟩
   refine Grow.trans ⟨?_,?_,?_⟩ (Grow.adv ts _)
   ·show p2.decls=_;rw [g2.decls];simp [PS.add]
   ·refine ⟨n :: l,?_⟩
    show p2.nodes.set p.nodes.length n=_
    rw [hl]
    simp [PS.add]
   ·intro h
    have h2:=g2.inv (by
     show NInv ((p.add ts ndZero).adv ts).nodes
     rw [adv_nodes]
     exact NInv.push h ⟨by show (0:Nat)≤6;omega,by show (0:Nat)<_;omega,by show (0:Nat)<_;omega,by show (0:Nat)<_;omega,fun h=>(by cases h),fun h=>(by cases h),fun h=>(by rcases h with h | h <;> cases h)⟩)
    intro i m hm
    have hm':(p2.nodes.set p.nodes.length n)[i]? = some m:=hm
    show NdOk (p2.nodes.set p.nodes.length n).length i m
    rw [List.length_set]
    rw [List.getElem?_set] at hm'
    split at hm'
    ·split at hm'
     ·rename_i e _
      cases hm'
      subst e
      exact hn
     ·cases hm'
    ·exact h2 i m hm'
theorem exprN (ts:List Tk):∀ f,ExN (exprF ts f):=by
 have hatom:∀ (p:PS) (br:Except Nat (Nat × PS)) (r:Nat) (p':PS),(∀ r p',br = .ok (r,p')→Grow p p'∧r=p.nodes.length∧r<p'.nodes.length)→atomF ts p br = .ok (r,p')→Grow p p'∧r=p.nodes.length∧r<p'.nodes.length:=by
  intro p br r p' hbr he
  unfold atomF at he
  split at he
  ·exact hbr _ _ he
  split at he
  ·cases he;exact leafN ts p _ (by simp) rfl rfl rfl
  split at he
  ·cases he;exact leafN ts p _ (by simp) rfl rfl rfl
  split at he
  ·cases he;exact leafN ts p _ (by simp) rfl rfl rfl
  split at he
  ·cases he;exact leafN ts p _ (by simp) rfl rfl rfl
  ·cases he
 intro f
 induction f with
 | zero=>intro p r p' he;exact hatom p _ r p' (fun _ _ h=>by cases h) he
 | succ f ih=>intro p r p' he;exact hatom p _ r p' (fun _ _ h=>bracketN ih h) he
structure DInv (p:PS):Prop where
 nodes:NInv p.nodes
 segs:∀ d∈p.decls,(d.root=0∧d.fin=0∧d.kind=0)∨(d.root<d.fin∧d.fin≤p.nodes.length)
 place:∀ d∈p.decls,d.place<4
 number:∀ d∈p.decls,d.kind≠0→d.number<(eqsF p.decls).length
 cover:∀ i,i<p.nodes.length→∃ d∈p.decls,d.root≤i∧i<d.fin
theorem DInv.start:DInv pZero:=
 ⟨fun i n h=>(by simp [pZero] at h),fun d h=>(by simp [pZero] at h),fun d h=>(by simp [pZero] at h),fun d h=>(by simp [pZero] at h),fun i h=>(by simp [pZero] at h)⟩
theorem DInv.of {p q:PS} (h:DInv p) (h1:q.decls=p.decls) (h2:q.nodes=p.nodes):DInv q:=by
 obtain ⟨a,b,c,d,e⟩:=h
 exact ⟨by rw [h2];exact a,by rw [h1,h2];exact b,by rw [h1];exact c,by rw [h1];exact d,by rw [h1,h2];exact e⟩
theorem sameSort_eqs (d:Dc) (l:List Dc) (hk:d.kind≠0):sameSort d l=(eqsF l).length:=by
 unfold sameSort eqsF
 congr 1
 apply List.filter_congr
 intro a _
 have:(d.kind == 0)=false:=by simpa using hk
 rw [this]
 cases h:(a.kind == 0) <;> simp [bne,h]
theorem declareInv {p p1:PS}{d:Dc} (h:DInv p) (g:Grow p p1) (h0:d.number=0) (hp:d.place<4)
  (hk:(d.kind=0∧d.root=0∧d.fin=0∧p1.nodes=p.nodes)∨(d.kind≠0∧d.root=p.nodes.length∧d.fin=p1.nodes.length∧d.root<d.fin)):DInv (p1.declare d):=by
 have hlen:=g.len
 have hds:p1.decls=p.decls:=g.decls
 have hmem:∀ e,e∈(p1.declare d).decls→e∈p.decls∨e = { d with number:=d.number+sameSort d p1.decls }:=by
  intro e he
  unfold PS.declare at he
  rw [← hds]
  simpa using he
 have heq:(eqsF (p1.declare d).decls).length=(eqsF p.decls).length+(if d.kind=0 then 0 else 1):=by
  unfold PS.declare eqsF
  simp only [List.filter_append,List.length_append,hds]
  congr 1
  by_cases hz:d.kind=0
  ·simp [hz]
  ·simp [hz]
 refine ⟨g.inv h.nodes,?_,?_,?_,?_⟩
 ·intro e he
  show _∨(_∧e.fin≤p1.nodes.length)
  rcases hmem e he with he | rfl
  ·rcases h.segs e he with h1 | ⟨h1,h2⟩
   ·exact .inl h1
   ·exact .inr ⟨h1,Nat.le_trans h2 hlen⟩
  ·rcases hk with ⟨k1,k2,k3,_⟩ | ⟨k1,k2,k3,k4⟩
   ·exact .inl ⟨k2,k3,k1⟩
   ·exact .inr ⟨k4,Nat.le_of_eq k3⟩
 ·intro e he
  rcases hmem e he with he | rfl
  ·exact h.place e he
  ·exact hp
 ·intro e he hke
  rw [heq]
  rcases hmem e he with he | rfl
  ·have:=h.number e he hke;omega
  ·show d.number+sameSort d p1.decls<_
   have hkd:d.kind≠0:=hke
   rw [sameSort_eqs d _ hkd,hds,h0,if_neg hkd];omega
 ·intro i hi
  have hi':i<p1.nodes.length:=hi
  have hin:∀ e,e∈p.decls→e∈(p1.declare d).decls:=by intro e he;unfold PS.declare;simp [hds,he]
  rcases hk with ⟨_,_,_,k4⟩ | ⟨k1,k2,k3,k4⟩
  ·rw [k4] at hi'
   obtain ⟨e,he,h1,h2⟩:=h.cover i hi'
   exact ⟨e,hin e he,h1,h2⟩
  ·by_cases hc:i<p.nodes.length
   ·obtain ⟨e,he,h1,h2⟩:=h.cover i hc
    exact ⟨e,hin e he,h1,h2⟩
   ·exact ⟨{ d with number:=d.number+sameSort d p1.decls },by unfold PS.declare;simp,by show d.root≤i;omega,by show i<d.fin;omega⟩
theorem declarationInv {ts:List Tk}{p p':PS} (h:DInv p) (he:declarationF ts p = .ok p'):DInv p':=by
 have inp:inputF ts p = .ok p'→DInv p':=by
  intro he
  unfold inputF at he
  split at he
  ·obtain ⟨rfl,_⟩:=take_grow he
   refine DInv.of ?_ (adv_decls ts _) (adv_nodes ts _)
   exact declareInv h ((Grow.adv ts p).trans (Grow.adv ts _)) rfl (by show (0:Nat)<4;decide) (.inl ⟨rfl,rfl,rfl,by simp⟩)
  ·cases he
 have eqn:∀ kind,kind≠0→equationF ts kind p = .ok p'→DInv p':=by
  intro kind hk he
  unfold equationF at he
  split at he
  ·split at he
   ·cases he
   rename_i p1 e1
   obtain ⟨rfl,_⟩:=take_grow e1
   split at he
   ·cases he
   rename_i pl p2 e2
   unfold placeF at e2
   split at e2
   ·rename_i hpl
    cases e2
    split at he
    ·cases he
    rename_i p3 e3
    obtain ⟨rfl,_⟩:=take_grow e3
    split at he
    ·cases he
    rename_i r p4 e4
    obtain ⟨g,hr,hlt⟩:=exprN ts 16 _ _ _ e4
    obtain ⟨rfl,_⟩:=take_grow he
    have g0:Grow p p4:=Grow.trans (Grow.of (by simp) (by simp)) g
    have hr':r=p.nodes.length:=by rw [hr];simp
    refine DInv.of ?_ (adv_decls ts _) (adv_nodes ts _)
    exact declareInv h g0 rfl hpl.2 (.inr ⟨hk,hr',rfl,hlt⟩)
   ·cases e2
  ·cases he
 unfold declarationF at he
 split at he
 ·exact inp he
 split at he
 ·exact eqn 1 (by decide) he
 split at he
 ·exact eqn 2 (by decide) he
 ·cases he
theorem declsInv {ts:List Tk}:∀ f p p',DInv p→declsF ts f p = .ok p'→DInv p':=by
 intro f
 induction f with
 | zero=>intro p p' h he;cases he;exact h
 | succ f ih=>
  intro p p' h he
  unfold declsF at he
  split at he
  ·cases he;exact h
  ·split at he
   ·cases he
   ·rename_i q e1
    exact ih _ _ (declarationInv h e1) he
theorem declsWf {ts:List Tk} (ht:TsOk ts):∀ f p p',p.Wf ts→p.depth=0→declsF ts f p = .ok p'→p'.Wf ts:=by
 intro f
 induction f with
 | zero=>intro p p' h _ he;cases he;exact h
 | succ f ih=>
  intro p p' h h0 he
  unfold declsF at he
  split at he
  ·cases he;exact h
  ·split at he
   ·cases he
   ·rename_i q e1
    have s:=declaration_step ht h h0 e1
    exact ih _ _ s.wf (s.depth.trans h0) he
theorem bindF_keep (l:List Dc) (n:Nd):(bindF l n).kind=n.kind∧(bindF l n).a=n.a∧(bindF l n).b=n.b∧(bindF l n).c=n.c:=by
 unfold bindF;split <;> exact ⟨rfl,rfl,rfl,rfl⟩
theorem findF_range (l:List Dc) (name:ByteArray) : -1≤findF l name∧findF l name<(l.length:Int):=by
 unfold findF
 split
 ·rename_i i h
  have:=List.findIdx?_eq_some_iff_getElem.1 h
  obtain ⟨h1,_⟩:=this
  omega
 ·omega
theorem badName_none {all:List Dc}{ns:List Nd}:∀ l i,badNameF all ns i l=none→∀ d∈l,badNodeF (seg ns d.root d.fin)=none:=by
 intro l
 induction l with
 | nil=>intro i _ d hd;simp at hd
 | cons e l ih=>
  intro i h d hd
  unfold badNameF at h
  split at h
  ·cases h
  ·split at h
   ·cases h
   ·rename_i hb
    rcases List.mem_cons.1 hd with rfl | hd
    ·exact hb
    ·exact ih _ h d hd
theorem badNode_none:∀ l:List Nd,badNodeF l=none→∀ n∈l,n.kind=2→0≤n.decl:=by
 intro l
 induction l with
 | nil=>intro _ n hn;simp at hn
 | cons m l ih=>
  intro h n hn hk
  unfold badNodeF at h
  split at h
  ·cases h
  ·rename_i hm
   rcases List.mem_cons.1 hn with rfl | hn
   ·exact Int.not_lt.1 (fun hlt=>hm ⟨hk,hlt⟩)
   ·exact ih h n hn hk
theorem links_src {ds:List Dc}{ns:List Nd} (P:Nat→Prop):∀ l i,(∀ d∈l,d.kind≠0→P d.number)→∀ r∈linksFrom ds ns i l,P r.src∧r.dst<4:=by
 have hto:∀ i d q,∀ r∈linksTo ds ns i d q,r.src=d.number∧r.dst<q:=by
  intro i d q
  induction q with
  | zero=>intro r hr;simp [linksTo] at hr
  | succ q ih=>
   intro r hr
   simp only [linksTo,List.mem_append] at hr
   rcases hr with hr | hr
   ·have:=ih r hr;exact ⟨this.1,by omega⟩
   ·unfold linkAt at hr
    split at hr
    ·simp at hr;subst hr;exact ⟨rfl,Nat.lt_succ_self _⟩
    ·simp at hr
 intro l
 induction l with
 | nil=>intro i _ r hr;simp [linksFrom] at hr
 | cons d l ih=>
  intro i h r hr
  simp only [linksFrom,List.mem_append] at hr
  rcases hr with hr | hr
  ·split at hr
   ·simp at hr
   ·rename_i hk
    obtain ⟨h1,h2⟩:=hto i d 4 r hr
    exact ⟨by rw [h1];exact h d (List.mem_cons_self ..) hk,h2⟩
  ·exact ih (i+1) (fun e he=>h e (List.mem_cons_of_mem _ he)) r hr
theorem links_len {ds:List Dc}{ns:List Nd}:∀ l i,(linksFrom ds ns i l).length≤4 * l.length:=by
 intro l
 induction l with
 | nil=>intro i;simp [linksFrom]
 | cons d l ih=>
  intro i
  simp only [linksFrom,List.length_append,List.length_cons]
  have:=ih (i+1)
  have:=linksTo_len ds ns i d 4
  split
  ·simp;omega
  ·omega
theorem good_parse (s:ByteArray) (hs:s.size≤1500) (p:PS) (h:parseF s = .ok p):Good p.decls (boundN p):=by
 have ht:=toks_ok s hs
 have hi:=declsInv _ _ _ DInv.start h
 have hw:=declsWf ht _ _ _ (pZero_wf ht) rfl h
 have hl:=ht.1
 have hn:=hw.next
 have hnn:=hw.nodes
 have hnd:=hw.decls
 have hbl:(boundN p).length=p.nodes.length:=by simp [boundN]
 have hget:∀ i (hi':i<(boundN p).length),∃ m,p.nodes[i]? = some m∧(boundN p)[i]'hi'=bindF p.decls m:=by
  intro i hi'
  have:i<p.nodes.length:=by rw [← hbl];exact hi'
  exact ⟨p.nodes[i]'this,by simp [this],by simp [boundN]⟩
 have hmem:∀ n∈boundN p,∃ (i:Nat) (m:Nd),p.nodes[i]? = some m∧n=bindF p.decls m:=by
  intro n hn
  obtain ⟨i,hi',rfl⟩:=List.getElem_of_mem hn
  obtain ⟨m,h1,h2⟩:=hget i hi'
  exact ⟨i,m,h1,h2⟩
 refine ⟨⟨by omega,by omega,?_,?_,?_,?_,hi.place,?_⟩,?_,?_,?_⟩
 ·rw [hbl];exact hi.segs
 ·intro n hn
  obtain ⟨i,m,h1,rfl⟩:=hmem n hn
  obtain ⟨_,e2,e3,e4⟩:=bindF_keep p.decls m
  have:=hi.nodes i m h1
  rw [hbl,e2,e3,e4]
  exact ⟨this.a,this.b,this.c⟩
 ·intro n hn hk
  obtain ⟨i,m,h1,rfl⟩:=hmem n hn
  have hk':m.kind=2:=by rw [← (bindF_keep p.decls m).1];exact hk
  unfold bindF
  rw [if_pos hk']
  exact findF_range _ _
 ·intro n hn
  obtain ⟨i,m,h1,rfl⟩:=hmem n hn
  rw [(bindF_keep p.decls m).1]
  exact (hi.nodes i m h1).kind
 ·intro i hi'
  obtain ⟨m,h1,h2⟩:=hget i hi'
  obtain ⟨e1,e2,e3,e4⟩:=bindF_keep p.decls m
  rw [h2,e1,e2,e3,e4]
  have:=hi.nodes i m h1
  exact ⟨this.k3,this.k4,this.k5⟩
 ·intro hb n hn hk
  obtain ⟨i,hi',rfl⟩:=List.getElem_of_mem hn
  obtain ⟨d,hd,h1,h2⟩:=hi.cover i (by rw [← hbl];exact hi')
  refine badNode_none _ (badName_none _ _ hb d hd) _ ?_ hk
  unfold seg
  refine List.mem_iff_getElem.2 ⟨i - d.root,?_,?_⟩
  ·simp;omega
  ·simp [Nat.add_sub_cancel' h1]
 ·intro r hr
  exact links_src (fun k=>k<(eqsF p.decls).length) _ _ (fun d hd hk=>hi.number d hd hk) r hr
 ·have:=links_len (ds:=p.decls) (ns:=boundN p) p.decls 0
  show (linksFrom p.decls (boundN p) 0 p.decls).length≤6100
  omega
def RTk.l (t:RTk):List UInt8:=t.word.data.toList
def rlit (t:RTk):Bool:=t.c == 110 || t.l == kTrue || t.l == kFalse
def rop (l:List UInt8):Bool:=(opOf l).isSome
def insF (t:RTk):List UInt8 × Bool × Bool:=
 if t.l=kNot then ([69],true,true)
 else if t.l=kIf then ([69,69,69],true,true)
 else if rlit t=true then ([76],true,true)
 else if t.c=97 then ([79],true,true)
 else ([69,79],false,t.l == [40])
def ruleF (x:Nat) (t:RTk) (depth:Int):List UInt8 × Bool × Bool:=
 if x=80 then (if t.l=kIn then ([97,59,80],true,true) else ([97,84,81,61,69,59,80],true,t.l == kInt || t.l == kBool))
 else if x=97 then ([],true,t.c == 97)
 else if x=84 then ([],true,t.l == kAt)
 else if x=81 then ([],true,t.c == 110 && decide (t.n<4))
 else if x=69 then (if t.l=[40] then ([73,41],true,decide (depth<16)) else ([],true,rlit t || t.c == 97))
 else if x=73 then insF t
 else if x=76 then ([69],true,rop t.l || t.l == kFby)
 else if x=79 then ([69],true,rop t.l)
 else ([],true,t.c == 115 && ((t.l.getD 0 0).toNat == x))
end Go.Proofs.YtmndgoapkmhglaaGreat
namespace Go.Proofs.YtmndgoapkmhglaaGreat
open Go.RowKit
attribute [local go_sem ↓] Go.wp_at_zero Go.wp_at_succ
attribute [local go_sem] Tryz.fieldTok0 Tryz.fieldTok1 Tryz.fieldTok2
theorem par_start {w:World}{X:Nat→Prop}{ts:List Tk}{vt:Value}{B:Nat} (h:w.ownsRow B 118 3 vt ts.length (tkCells ts)) (hX:∀ k,X k→k<B) (hB:B≤w.heap.size) :
  Par (w.alloc (.cells #[vt,.int .i64 0,.int .i64 0,.int .i64 0,.slice none 0 0,.slice none 0 0] 116)) X w.heap.size ts pZero:=by
 have hlt:=h.lt
 refine ⟨vt,.slice none 0 0,.slice none 0 0,heap_alloc_new w _,(own_zero h).alloc _,World.ownsRow_nil _ _ _ _,World.ownsRow_nil _ _ _ _,?_,by simp [Value.ownBlock],by simp [Value.ownBlock],by simp [Value.ownBlock],by simp [Value.ownBlock],by simp [Value.ownBlock],?_,?_,by simp [Value.ownBlock],by simp [Value.ownBlock],?_⟩
 ·intro e;have:=(hlt _ e).2;omega
 ·intro k hk;have:=hX k hk;simp;omega
 ·intro hk;have:=hX _ hk;omega
 ·intro g hg hk;have:=(hlt g hg).1;have:=hX g hk;omega
def ParseRes (w w':World) (e:Ending) (s:ByteArray):Except Nat PS→Prop
 | .ok p=>∃ vd vn,e = .returned (.tuple #[.agg #[vd,vn],.int .i64 0,.bool true])∧w'.ownsRow w.heap.size 91 7 vd p.decls.length (dcCells p.decls)∧
   w'.ownsRow w.heap.size 126 11 vn p.nodes.length (ndCells (p.nodes.map (bindF p.decls)))∧(∀ g,vd.ownBlock=some g→vn.ownBlock≠some g)
 | .error k=>e = .returned (.tuple #[.agg #[.slice none 0 0,.slice none 0 0],.int .i64 ((tkAt (toks s) k).pos:Int),.bool false])
theorem own_base {w:World}{B e size n:Nat}{v:Value}{xs:List Value} (h:w.ownsRow 0 e size v n xs) (hb:∀ g,v.ownBlock=some g→B≤g):w.ownsRow B e size v n xs:=by
 refine ⟨h.1,?_⟩
 rcases h.2 with h0 | ⟨g,cap,cur,hv,_,hr⟩
 ·exact .inl h0
 ·exact .inr ⟨g,cap,cur,hv,hb g (by rw [hv];rfl),hr⟩
set_option maxHeartbeats 1000000 in
set_option maxRecDepth 100000 in
theorem parse_any (s:ByteArray) (w:World) (hs:s.size≤1500) :
  Calls Tryz.prog 34 #[.string s] w fun e w'=>ParseRes w w' e s (parseF s)∧Below w.heap.size w w':=by
 have ht:=toks_ok s hs
 have hdg:=toks_dig s
 go_enter Tryz.func34,Tryz.ntmps34
 go_wp2_with fail
 refine (tokens_any s _ hs).mono ?_
 rintro e w1 ⟨vt,rfl,hown,hb1⟩
 have hR1:=(hb1.block w.heap.size (by simp)).trans (heap_alloc_new w _)
 have hB1:Below w.heap.size w w1:=((Below.refl _ _).alloc (Nat.le_refl _) _).trans (hb1.mono (by simp))
 have hsz1:w.heap.size+1≤w1.heap.size:=by have:=hb1.size;simpa using this
 have hP0:=par_start (X:=fun k=>k<w.heap.size+1) hown (by simp) (by simpa using hsz1)
 obtain ⟨g,cap,rfl,_,_⟩:=hown.form (by have:=ht.pos;omega)
 have HT:=hide ht
 have HDG:=hide hdg
 have HP0:=hide hP0
 clear hown hb1 ht hdg hP0
 go_wp2_with fail
 go_loopg [9] (toks s).length (fun m _ wr=>∃ p,Par wr (fun k=>k<w.heap.size+1) w1.heap.size (toks s) p∧p.Wf (toks s)∧p.depth=0∧Fr (fun k=>k<w.heap.size+1) w1 wr∧(toks s).length - p.next≤m∧declsF (toks s) m p=parseF s)
 case atStart=>exact ⟨pZero,HP0.out,pZero_wf HT.out,rfl,Fr.of_below ((Below.refl _ _).alloc (Nat.le_refl _) _) (fun k hk=>by omega),by simp,rfl⟩
 case round=>
  obtain ⟨p,hpr,hwf,hd0,hfr,hm,hdec⟩:=hrel
  have HD0:=hide hd0
  have HDEC:=hide hdec
  have hnx:=hwf.next
  clear hd0 hdec
  go_wp2_with fail
  refine (here_any _ _ _ (toks s) p hpr hnx HT.out.1).mono ?_
  rintro e w2 ⟨rfl,hb2⟩
  have hP2:=hpr.below hb2
  have hF2:=hfr.trans (hpr.fr hb2)
  clear hpr hb2 hfr
  by_cases hk:(p.hd (toks s)).kind=0
  ·have q1:(((p.hd (toks s)).kind:Int) != 0)=false:=by rw [hk];rfl
   have HR:Hid (parseF s = .ok p):=hide (by
    rw [← HDEC.out]
    cases gk with
    | zero=>omega
    | succ m=>unfold declsF;rw [if_pos hk])
   clear hk
   go_wp2_with fail
   refine (bind_any _ _ _ p hP2 (by have:=hwf.nodes;have:=HT.out.1;omega) (by have:=hwf.decls;have:=HT.out.1;omega)).mono ?_
   rintro e w3 ⟨rfl,hp3,hf3⟩
   have hF3:=hF2.trans hf3
   clear hP2 hf3 hF2
   obtain ⟨vt3,vd3,vn3,hv3⟩:=hp3
   obtain ⟨ad,cd,rfl,_⟩:=own_shape hv3.decls
   obtain ⟨an,cn,rfl,_⟩:=own_shape hv3.nodes
   have hln:({ p with nodes:=p.nodes.map (bindF p.decls) }:PS).nodes.length=p.nodes.length:=by simp
   have hld:({ p with nodes:=p.nodes.map (bindF p.decls) }:PS).decls.length=p.decls.length:=rfl
   have c4:=hv3.cell.2.2.2.2.1
   have c5:=hv3.cell.2.2.2.2.2
   have hR3:=(hF3.block w.heap.size (by omega)).trans hR1
   have r0:w3.cell? ⟨w.heap.size,0,none⟩=some (.slice none 0 0):=by rw [cell_of_row w3 _ 0 _ _ _ hR3];rfl
   have r1:w3.cell? ⟨w.heap.size,1,none⟩=some (.slice none 0 0):=by rw [cell_of_row w3 _ 1 _ _ _ hR3];rfl
   have rF:∀ i,w3.frozen? ⟨w.heap.size,i,none⟩=false:=fun i=>frozen_of_row w3 _ i _ _ hR3
   have HV:=hide hv3
   have HF3:=hide hF3
   rw [hln] at c5
   rw [hld] at c4
   clear hv3 hF3 hR3
   go_wp2
   refine bodyPost_ret (v:=.tuple #[.agg #[.slice ad p.decls.length cd,.slice an p.nodes.length cn],.int .i64 0,.bool true]) (by simp [results,Tryz.results34,go_sem, *]) rfl ?_
   refine ⟨?_,?_⟩
   ·rw [HR.out]
    have hg:∀ {e size n:Nat} {v:Value} {xs:List Value},w3.ownsRow 0 e size v n xs→(∀ g,v.ownBlock=some g→¬ g<w.heap.size+1)→
      ((w3.setCell ⟨w.heap.size,0,none⟩ (.slice ad p.decls.length cd)).setCell ⟨w.heap.size,1,none⟩ (.slice an p.nodes.length cn)).ownsRow w.heap.size e size v n xs:=by
     intro e size n v xs ho hx
     have k1:w3.grownBy (w3.setCell ⟨w.heap.size,0,none⟩ (.slice ad p.decls.length cd)) (some w.heap.size):=⟨rfl,rfl,rfl,by simp,fun k _ hk=>heap_setCell_other _ ⟨w.heap.size,0,none⟩ k _ (fun e=>hk (by simp [e]))⟩
     have k2:(w3.setCell ⟨w.heap.size,0,none⟩ (.slice ad p.decls.length cd)).grownBy ((w3.setCell ⟨w.heap.size,0,none⟩ (.slice ad p.decls.length cd)).setCell ⟨w.heap.size,1,none⟩ (.slice an p.nodes.length cn)) (some w.heap.size):=⟨rfl,rfl,rfl,by simp,fun k _ hk=>heap_setCell_other _ ⟨w.heap.size,1,none⟩ k _ (fun e=>hk (by simp [e]))⟩
     have hne:v.ownBlock≠some w.heap.size:=fun e=>hx _ e (by omega)
     exact own_base ((ho.kept k1 (.inr hne)).kept k2 (.inr hne)) (fun g hg=>by have:=hx g hg;omega)
    refine ⟨_,_,rfl,hg HV.out.decls HV.out.xd,?_,?_⟩
    ·have:=hg HV.out.nodes HV.out.xn
     rw [hln] at this
     exact this
    ·have:=HV.out.dn
     rw [hln] at this
     exact this
   ·exact ((hB1.trans ((HF3.out.mono (Y:=fun k=>k<w.heap.size) (fun k hk=>by show k<_;omega)).to_below)).setCell (Nat.le_refl _) _).setCell (Nat.le_refl _) _
  ·have q1:(((p.hd (toks s)).kind:Int) != 0)=true:=by rw [bne_iff_ne];omega
   have HKD:=hide hk
   clear hk
   go_wp2_with fail
   refine (declaration_any HT.out HDG.out _ _ _ p hP2 hwf HD0.out).mono ?_
   rintro e w3 ⟨hr,hf3⟩
   have hF3:=hF2.trans hf3
   clear hP2 hf3 hF2
   cases hy:declarationF (toks s) p with
   | error k=>
    rw [hy] at hr
    obtain ⟨rfl,p',hp',hk1,hk2,_⟩:=hr
    have HR:Hid (parseF s = .error k):=hide (by
     rw [← HDEC.out]
     cases gk with
     | zero=>omega
     | succ m=>unfold declsF;rw [if_neg HKD.out,hy])
    have hn':p'.next<(toks s).length:=by omega
    have HK1:=hide hk1
    clear hy hk1
    go_wp2_with fail
    refine (here_any _ _ _ (toks s) p' hp' hn' HT.out.1).mono ?_
    rintro e w4 ⟨rfl,hb4⟩
    have hF4:=hF3.trans (hp'.fr hb4)
    have hR4:=(hF4.block w.heap.size (by omega)).trans hR1
    have r0:w4.cell? ⟨w.heap.size,0,none⟩=some (.slice none 0 0):=by rw [cell_of_row w4 _ 0 _ _ _ hR4];rfl
    have r1:w4.cell? ⟨w.heap.size,1,none⟩=some (.slice none 0 0):=by rw [cell_of_row w4 _ 1 _ _ _ hR4];rfl
    have rF:∀ i,w4.frozen? ⟨w.heap.size,i,none⟩=false:=fun i=>frozen_of_row w4 _ i _ _ hR4
    have HF4:=hide hF4
    clear hF3 hF4 hb4 hp' hR4
    go_wp2
    refine bodyPost_ret (v:=.tuple #[.agg #[.slice none 0 0,.slice none 0 0],.int .i64 ((p'.hd (toks s)).pos:Int),.bool false]) (by simp [results,Tryz.results34,go_sem, *]) rfl ?_
    refine ⟨?_,?_⟩
    ·rw [HR.out]
     show _=_
     rw [← HK1.out]
     rfl
    ·exact ((hB1.trans ((HF4.out.mono (Y:=fun k=>k<w.heap.size) (fun k hk=>by show k<_;omega)).to_below)).setCell (Nat.le_refl _) _).setCell (Nat.le_refl _) _
   | ok p'=>
    rw [hy] at hr
    obtain ⟨rfl,hp'⟩:=hr
    have hds:=declaration_step HT.out hwf HD0.out hy
    have HY:=hide hy
    clear hy
    go_wp2_with fail
    go_roundg (gk - 1)
    case measure=>omega
    case rel=>
     refine ⟨p',hp',hds.wf,by rw [hds.depth];exact HD0.out,hF3,by have:=hds.lt;omega,?_⟩
     rw [← HDEC.out]
     cases gk with
     | zero=>omega
     | succ m=>simp only [declsF,Nat.add_sub_cancel];rw [if_neg HKD.out,HY.out]
structure ProgAt (w:World) (q:Nat) (ds:List Dc) (ns:List Nd) (vd vn:Value):Prop where
 lt:q<w.heap.size
 c0:w.cell? ⟨q,0,none⟩=some vd
 c1:w.cell? ⟨q,1,none⟩=some vn
 decls:w.ownsRow 0 91 7 vd ds.length (dcCells ds)
 nodes:w.ownsRow 0 126 11 vn ns.length (ndCells ns)
theorem ProgAt.below {w w':World}{q:Nat}{ds:List Dc}{ns:List Nd}{vd vn:Value} (h:ProgAt w q ds ns vd vn) (hb:Below w.heap.size w w'):ProgAt w' q ds ns vd vn:=
 ⟨Nat.lt_of_lt_of_le h.lt hb.size,(hb.cell h.lt).trans h.c0,(hb.cell h.lt).trans h.c1,bel_own h.decls hb,bel_own h.nodes hb⟩
def optVal (o:Option Nat):Value:=.tuple #[.int .i64 ((o.getD 0:Nat):Int),.bool o.isSome]
theorem opt_some {o:Option Nat}{a:Nat} (h:o=some a):Ending.returned (.tuple #[.int .i64 (a:Int),.bool true]) = .returned (optVal o):=by rw [h];rfl
theorem opt_none {o:Option Nat} (h:o=none):Ending.returned (.tuple #[.int .i64 0,.bool false]) = .returned (optVal o):=by rw [h];rfl
theorem drop_at {α:Type} (l:List α) (k:Nat) (h:k<l.length):l.drop k=(l[k]'h) :: l.drop (k+1):=List.drop_eq_getElem_cons h
theorem dc_later {w wr:World}{g cap:Nat}{l:List Dc} (h:w.ownsRow 0 91 7 (.slice (some ⟨g,0,none⟩) l.length cap) l.length (dcCells l)) (hb:Below w.heap.size w wr) (hg:g<w.heap.size) {k:Nat} (hk:k<l.length) (a:Dc) (ha:a=l[k]'hk) :
  wr.cell? ⟨g,k * 7,none⟩=some (.int .i64 (a.kind:Int))∧wr.cell? ⟨g,k * 7+1,none⟩=some (.int .i64 (a.number:Int))∧wr.cell? ⟨g,k * 7+2,none⟩=some (.string a.name)∧wr.cell? ⟨g,k * 7+3,none⟩=some (.int .i64 (a.pos:Int))∧
  wr.cell? ⟨g,k * 7+4,none⟩=some (.int .i64 (a.place:Int))∧wr.cell? ⟨g,k * 7+5,none⟩=some (.int .i64 (a.root:Int))∧wr.cell? ⟨g,k * 7+6,none⟩=some (.int .i64 (a.fin:Int)):=by
 have hcs:=dcAt_cells h hk
 rw [← ha] at hcs
 have hcr:∀ j,j<7→wr.cell? ⟨g,k * 7+j,none⟩=a.cells[j]?:=fun j hj=>(hb.cell (p:=⟨g,k * 7+j,none⟩) hg).trans (hcs j hj)
 exact ⟨hcr 0 (by omega),hcr 1 (by omega),hcr 2 (by omega),hcr 3 (by omega),hcr 4 (by omega),hcr 5 (by omega),hcr 6 (by omega)⟩
theorem nd_later {w wr:World}{g cap:Nat}{l:List Nd} (h:w.ownsRow 0 126 11 (.slice (some ⟨g,0,none⟩) l.length cap) l.length (ndCells l)) (hb:Below w.heap.size w wr) (hg:g<w.heap.size) {k:Nat} (hk:k<l.length) (a:Nd) (ha:a=l[k]'hk) :
  wr.cell? ⟨g,k * 11,none⟩=some (.int .i64 (a.kind:Int))∧wr.cell? ⟨g,k * 11+1,none⟩=some (.int .i64 (a.pos:Int))∧wr.cell? ⟨g,k * 11+2,none⟩=some (.int .i64 (a.value:Int))∧wr.cell? ⟨g,k * 11+3,none⟩=some (.string a.name)∧
  wr.cell? ⟨g,k * 11+4,none⟩=some (.int .i64 a.decl)∧wr.cell? ⟨g,k * 11+5,none⟩=some (.int .i64 (a.op:Int))∧wr.cell? ⟨g,k * 11+6,none⟩=some (.int .i64 (a.a:Int))∧wr.cell? ⟨g,k * 11+7,none⟩=some (.int .i64 (a.b:Int))∧
  wr.cell? ⟨g,k * 11+8,none⟩=some (.int .i64 (a.c:Int))∧wr.cell? ⟨g,k * 11+9,none⟩=some (.bool a.delayed)∧wr.cell? ⟨g,k * 11+10,none⟩=some (.bool a.behind):=by
 have hcs:=ndAt_cells h hk
 rw [← ha] at hcs
 have hcr:∀ j,j<11→wr.cell? ⟨g,k * 11+j,none⟩=a.cells[j]?:=fun j hj=>(hb.cell (p:=⟨g,k * 11+j,none⟩) hg).trans (hcs j hj)
 exact ⟨hcr 0 (by omega),hcr 1 (by omega),hcr 2 (by omega),hcr 3 (by omega),hcr 4 (by omega),hcr 5 (by omega),hcr 6 (by omega),hcr 7 (by omega),hcr 8 (by omega),hcr 9 (by omega),hcr 10 (by omega)⟩
set_option maxHeartbeats 1000000 in
set_option maxRecDepth 100000 in
theorem tooMany_any (w:World) (q:Nat) (ds:List Dc) (ns:List Nd) (vd vn:Value) (h:ProgAt w q ds ns vd vn) (hdl:ds.length≤1501) :
  Calls Tryz.prog 60 #[.pointer (some ⟨q,0,none⟩)] w fun e w'=>e = .returned (optVal (tooManyF ds))∧Below w.heap.size w w':=by
 have c0:=h.c0
 obtain ⟨av,cap,rfl,hsh⟩:=own_shape h.decls
 have HO:=hide h.decls
 have HSH:=hide hsh
 clear h hsh
 go_enter Tryz.func60,Tryz.ntmps60
 go_wp2
 go_loopw [12] (fun i wr=>∃ k:Nat,k≤ds.length∧i = .int .i64 k∧Below w.heap.size w wr∧tooManyF (ds.drop k)=tooManyF ds) (fun i _=>ds.length - (intOf i).toNat)
 case atStart=>exact ⟨0,Nat.zero_le _,rfl,Below.refl _ _,rfl⟩
 case round=>
  obtain ⟨k,hk,rfl,hbel,hrec⟩:=hrel
  by_cases hlt:k<ds.length
  ·obtain ⟨g,rfl,_,hg2⟩:=HSH.out (by omega)
   rw [drop_at ds k hlt] at hrec
   obtain ⟨a,ha⟩:∃ a,a=ds[k]'hlt:=⟨_,rfl⟩
   rw [← ha] at hrec
   obtain ⟨x0,x1,x2,x3,x4,x5,x6⟩:=dc_later HO.out hbel hg2 hlt a ha
   have j1:(0:Int)≤(k:Int):=by omega
   have j2:(k:Int)<(ds.length:Int):=by omega
   simp only [tooManyF] at hrec
   have HREC:=hide hrec
   clear ha hrec c0
   by_cases hkd:a.kind=0
   ·have q0:((a.kind:Int) == 0)=true:=by rw [hkd];rfl
    have HM:Hid (most a=4):=hide (by unfold most;rw [if_pos hkd])
    clear hkd
    by_cases hn:4≤a.number
    ·have q1:(4:Int)≤(a.number:Int):=by omega
     go_wp2
     go_ret2
     exact ⟨opt_some (by rw [← HREC.out,HM.out,if_pos hn]),hbel.alloc hbel.size _⟩
    ·have q1:¬ (4:Int)≤(a.number:Int):=by omega
     go_wp2
     go_roundw
     case rel=>exact ⟨k+1,by omega,by go_num,hbel.alloc hbel.size _,by rw [← HREC.out,HM.out,if_neg hn]⟩
     case measure=>simp [intOf];omega
   ·have q0:((a.kind:Int) == 0)=false:=by rw [beq_eq_false_iff_ne];omega
    have HM:Hid (most a=12):=hide (by unfold most;rw [if_neg hkd])
    clear hkd
    by_cases hn:12≤a.number
    ·have q1:(12:Int)≤(a.number:Int):=by omega
     go_wp2
     go_ret2
     exact ⟨opt_some (by rw [← HREC.out,HM.out,if_pos hn]),hbel.alloc hbel.size _⟩
    ·have q1:¬ (12:Int)≤(a.number:Int):=by omega
     go_wp2
     go_roundw
     case rel=>exact ⟨k+1,by omega,by go_num,hbel.alloc hbel.size _,by rw [← HREC.out,HM.out,if_neg hn]⟩
     case measure=>simp [intOf];omega
  ·have HF:Hid (tooManyF ds=none):=hide (by rw [← hrec,List.drop_of_length_le (by omega)];rfl)
   clear hrec
   go_wp2
   go_ret2
   exact ⟨opt_none HF.out,hbel⟩
set_option maxHeartbeats 400000 in
theorem takesTruths_any (op:Nat) (w:World):Calls Tryz.prog 94 #[.int .i64 (op:Int)] w fun e w'=>e = .returned (.bool (takesT op))∧w=w':=by
 by_cases h1:op=11
 ·have HF:Hid (takesT op=true):=hide (by rw [h1];rfl)
  have q1:((op:Int) == 11)=true:=by rw [h1];rfl
  clear h1
  go_enter Tryz.func94,Tryz.ntmps94
  go_wp2
  go_ret
  exact ⟨by rw [HF.out];rfl,rfl⟩
 ·have q1:((op:Int) == 11)=false:=by rw [beq_eq_false_iff_ne];omega
  by_cases h2:op=12
  ·have HF:Hid (takesT op=true):=hide (by rw [h2];rfl)
   have q2:((op:Int) == 12)=true:=by rw [h2];rfl
   clear h1 h2
   go_enter Tryz.func94,Tryz.ntmps94
   go_wp2
   go_ret
   exact ⟨by rw [HF.out];rfl,rfl⟩
  ·have HF:Hid (takesT op=false):=hide (by simp [takesT,h1,h2])
   have q2:((op:Int) == 12)=false:=by rw [beq_eq_false_iff_ne];omega
   clear h1 h2
   go_enter Tryz.func94,Tryz.ntmps94
   go_wp2
   go_ret
   exact ⟨by rw [HF.out];rfl,rfl⟩
set_option maxHeartbeats 400000 in
theorem makesTruth_any (op:Nat) (w:World):Calls Tryz.prog 119 #[.int .i64 (op:Int)] w fun e w'=>e = .returned (.bool (makesT op))∧w=w':=by
 by_cases h1:op=9
 ·have HF:Hid (makesT op=true):=hide (by rw [h1];rfl)
  have q1:((op:Int) == 9)=true:=by rw [h1];rfl
  clear h1
  go_enter Tryz.func119,Tryz.ntmps119
  go_wp2
  go_ret
  exact ⟨by rw [HF.out];rfl,rfl⟩
 ·have q1:((op:Int) == 9)=false:=by rw [beq_eq_false_iff_ne];omega
  by_cases h2:op=10
  ·have HF:Hid (makesT op=true):=hide (by rw [h2];rfl)
   have q2:((op:Int) == 10)=true:=by rw [h2];rfl
   clear h1 h2
   go_enter Tryz.func119,Tryz.ntmps119
   go_wp2
   go_ret
   exact ⟨by rw [HF.out];rfl,rfl⟩
  ·have HF:Hid (makesT op=takesT op):=hide (by simp [makesT,h1,h2])
   have q2:((op:Int) == 10)=false:=by rw [beq_eq_false_iff_ne];omega
   clear h1 h2
   go_enter Tryz.func119,Tryz.ntmps119
   go_wp2_with (go_at_call 94;refine (takesTruths_any _ _).mono ?_;rintro e w' ⟨rfl,rfl⟩)
   go_ret
   exact ⟨by rw [HF.out];rfl,rfl⟩
end Go.Proofs.YtmndgoapkmhglaaGreat
namespace Go.Proofs.YtmndgoapkmhglaaGreat
open Go.RowKit
attribute [local go_sem ↓] Go.wp_at_zero Go.wp_at_succ
theorem num_of (n:Int) (w:World) :
  Calls Tryz.prog 8 #[.int .i64 n] w fun e w'=>e = .returned (.int .i64 n)∧w=w':=by
 go_enter Tryz.func8,Tryz.ntmps8
 go_wp2
 go_ret
 exact ⟨rfl,rfl⟩
end Go.Proofs.YtmndgoapkmhglaaGreat
