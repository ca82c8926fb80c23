import Derived.Test.YtmndgoapkmhglaaGreatM14OrdB
import Derived.Test.YtmndgoapkmhglaaGreatM20OpC
namespace Go.Proofs.YtmndgoapkmhglaaGreat
def dlAt (ns:List Nd) (j:Nat):Bool:=((ns[j]?).map Nd.delayed).getD false
structure Meant (ds:List Dc) (ns:List Nd) (ins:List (List Int)) (NV:Nat→Nat→Int):Prop where
 cover:∀ i,i<ns.length→∃ (a:Nat) (d:Dc),ds[a]? = some d∧d.kind≠0∧d.root≤i∧i<d.fin
 val:∀ (i:Nat) (n:Nd),ns[i]? = some n→∀ k,NV k i=valF ds ins n k (NV k) (NV (k - 1))
 kids:∀ (a:Nat) (d:Dc),ds[a]? = some d→d.kind≠0→∀ (i:Nat) (n:Nd),ns[i]? = some n→d.root≤i→i<d.fin→∀ c∈needs n,i<c∧c<d.fin∧dlAt ns c=n.delayed
 root:∀ (a:Nat) (d:Dc),ds[a]? = some d→d.kind≠0→d.root<ns.length∧dlAt ns d.root=false
 segs:∀ (a:Nat) (d:Dc),ds[a]? = some d→d.kind≠0→d.root<d.fin∧d.fin≤ns.length
 decl:∀ n∈ns,n.kind=2→0≤n.decl∧n.decl<(ds.length:Int)
 hang:∀ (a:Nat) (d:Dc),ds[a]? = some d→d.kind≠0→∀ (i:Nat) (n:Nd),ns[i]? = some n→d.root≤i→i<d.fin→n.kind=2→n.delayed=false→kindAt ds n.decl≠0→markAll ds ns 0 ds noM a n.decl.toNat=true
structure Ranked (ds:List Dc) (H:Mx) (rank:Nat→Nat):Prop where
 less:∀ a b,H a b=true→rank b<rank a∧∃ d,ds[b]? = some d∧d.kind≠0
 lt:∀ (a:Nat) (d:Dc),ds[a]? = some d→d.kind≠0→rank a<ds.length
structure OrdOk (ds:List Dc) (H:Mx) (T:List Nat):Prop where
 eqn:∀ t∈T,∃ d,ds[t]? = some d∧d.kind≠0
 topo:∀ (j t:Nat),T[j]? = some t→∀ b,H t b=true→b∈T.take j
 all:∀ (a:Nat) (d:Dc),ds[a]? = some d→d.kind≠0→a∈T
 len:T.length≤300
def valsD (ts:List Tk) (V:List UInt8→Nat→Int) (k:Nat):List Dl→List Int
 | []=>[]
 | x :: r=>if x.kind=0 then valsD ts V k r else flatV ts V k x.t (x.i+5) ++ valsD ts V k r
structure DY (ts:List Tk) (f:Nd→Nd) (ns:List Nd) (V:List UInt8→Nat→Int) (VL:Nat→List Int) (d:Dc) (x:Dl):Prop where
 kind:d.kind=x.kind
 name:d.name=nameD ts x
 zero:x.kind=0→d.root=0∧d.fin=0
 fin:x.kind≠0→d.fin=d.root+x.t.size
 nodes:x.kind≠0→AllAt (fun j n=>ns[j]? = some (f n)) d.root (flat ts x.t (x.i+5) 0 d.root)
 vals:x.kind≠0→∀ k,AllAt (fun j v=>(VL k).getD j 0=v) d.root (flatV ts V k x.t (x.i+5))
theorem allAt_mid {α:Type} (A l B:List α):AllAt (fun j x=>(A ++ (l ++ B))[j]? = some x) A.length l:=by
 rw [allAt_get]
 intro m x hm
 have h:=(List.getElem?_eq_some_iff.1 hm).1
 rw [List.getElem?_append_right (by omega),Nat.add_sub_cancel_left,List.getElem?_append_left h]
 exact hm
theorem allAt_map {α β:Type}{P:Nat→β→Prop} (f:α→β):∀ (l:List α) (o:Nat),AllAt P o (l.map f)→AllAt (fun j x=>P j (f x)) o l:=by
 intro l
 induction l with
 | nil=>intro o _;trivial
 | cons x l ih=>intro o h;exact ⟨h.1,ih _ h.2⟩
theorem dy_all (ts:List Tk) (f:Nd→Nd) (V:List UInt8→Nat→Int):∀ (L:List Dl) (off a b:Nat) (N1:List Nd) (W1:Nat→List Int),N1.length=off→(∀ k,(W1 k).length=off)→
  All2 (DY ts f (N1 ++ (nodesD ts L off).map f) V (fun k=>W1 k ++ valsD ts V k L)) (declsD ts L off a b) L:=by
 intro L
 induction L with
 | nil=>intro off a b N1 W1 _ _;trivial
 | cons x r ih=>
  intro off a b N1 W1 hN hW
  simp only [declsD,nodesD,valsD]
  by_cases hk:x.kind=0
  ·simp only [if_pos hk]
   exact ⟨⟨hk.symm,rfl,fun _=>⟨rfl,rfl⟩,fun h=>absurd hk h,fun h=>absurd hk h,fun h=>absurd hk h⟩,ih off (a+1) b N1 W1 hN hW⟩
  ·simp only [if_neg hk]
   refine ⟨⟨rfl,rfl,fun h=>absurd h hk,fun _=>rfl,fun _=>?_,fun _ k=>?_⟩,?_⟩
   ·rw [List.map_append]
    show AllAt _ off _
    rw [← hN]
    exact allAt_map f _ _ (allAt_mid N1 _ _)
   ·show AllAt _ off _
    rw [← hW k]
    refine AllAt.mono (fun j v h=>?_) _ _ (allAt_mid (W1 k) (flatV ts V k x.t (x.i+5)) (valsD ts V k r))
    rw [List.getD_eq_getElem?_getD,h];rfl
   ·have:=ih (off+x.t.size) a (b+1) (N1 ++ (flat ts x.t (x.i+5) 0 off).map f) (fun k=>W1 k ++ flatV ts V k x.t (x.i+5)) (by simp [flat_len,hN]) (fun k=>by simp [flatV_len,hW k])
    rw [List.append_assoc,← List.map_append] at this
    simpa only [List.append_assoc] using this
theorem decls_num (ts:List Tk):∀ (L:List Dl) (off a b k:Nat) (d:Dc) (x:Dl),(declsD ts L off a b)[k]? = some d→L[k]? = some x→
  (x.kind=0→∃ m,d.number=a+m∧(inL L)[m]? = some x)∧(x.kind≠0→∃ m,d.number=b+m∧(eqL L)[m]? = some x):=by
 intro L
 induction L with
 | nil=>intro off a b k d x _ h;simp at h
 | cons y r ih=>
  intro off a b k d x h1 h2
  simp only [declsD] at h1
  by_cases hy:y.kind=0
  ·rw [if_pos hy] at h1
   have e1:inL (y :: r)=y :: inL r:=by simp [inL,hy]
   have e2:eqL (y :: r)=eqL r:=by simp [eqL,hy]
   rw [e1,e2]
   cases k with
   | zero=>
    simp only [List.getElem?_cons_zero,Option.some.injEq] at h1 h2
    subst h1 h2
    exact ⟨fun _=>⟨0,rfl,rfl⟩,fun h=>absurd hy h⟩
   | succ k=>
    rw [List.getElem?_cons_succ] at h1 h2
    obtain ⟨g1,g2⟩:=ih _ _ _ k d x h1 h2
    refine ⟨fun h=>?_,g2⟩
    obtain ⟨m,hm,hg⟩:=g1 h
    exact ⟨m+1,by omega,by rw [List.getElem?_cons_succ];exact hg⟩
  ·rw [if_neg hy] at h1
   have e1:inL (y :: r)=inL r:=by simp [inL,hy]
   have e2:eqL (y :: r)=y :: eqL r:=by simp [eqL,hy]
   rw [e1,e2]
   cases k with
   | zero=>
    simp only [List.getElem?_cons_zero,Option.some.injEq] at h1 h2
    subst h1 h2
    exact ⟨fun h=>absurd h hy,fun _=>⟨0,rfl,rfl⟩⟩
   | succ k=>
    rw [List.getElem?_cons_succ] at h1 h2
    obtain ⟨g1,g2⟩:=ih _ _ _ k d x h1 h2
    refine ⟨g1,fun h=>?_⟩
    obtain ⟨m,hm,hg⟩:=g2 h
    exact ⟨m+1,by omega,by rw [List.getElem?_cons_succ];exact hg⟩
theorem Right.one {ts:List Tk}{L:List Dl} (H:Right ts L) {a b:Nat}{x y:Dl} (hx:L[a]? = some x) (hy:L[b]? = some y) (he:(nameD ts x).data.toList=(nameD ts y).data.toList):a=b:=by
 have hi:=H.own x (List.mem_of_getElem? hx) y (List.mem_of_getElem? hy) he
 obtain ⟨h1,rfl⟩:=List.getElem?_eq_some_iff.1 hx
 obtain ⟨h2,rfl⟩:=List.getElem?_eq_some_iff.1 hy
 have hp:=H.pw
 rw [List.pairwise_iff_getElem] at hp
 rcases Nat.lt_trichotomy a b with h | h | h
 ·have:=hp a b h1 h2 h;have:=L[a].len_pos;omega
 ·exact h
 ·have:=hp b a h2 h1 h;have:=L[b].len_pos;omega
theorem Right.sameIn {ts:List Tk}{L:List Dl} (H:Right ts L) {i j:Nat}{x y:Dl} (hx:(inL L)[i]? = some x) (hy:(inL L)[j]? = some y) (he:(nameD ts x).data.toList=(nameD ts y).data.toList):i=j:=by
 have mx:x∈L:=(List.mem_filter.1 (List.mem_of_getElem? hx)).1
 have my:y∈L:=(List.mem_filter.1 (List.mem_of_getElem? hy)).1
 have hi:=H.own x mx y my he
 obtain ⟨h1,rfl⟩:=List.getElem?_eq_some_iff.1 hx
 obtain ⟨h2,rfl⟩:=List.getElem?_eq_some_iff.1 hy
 have hp:(inL L).Pairwise (fun x y=>x.i+x.len≤y.i):=H.pw.filter _
 rw [List.pairwise_iff_getElem] at hp
 rcases Nat.lt_trichotomy i j with h | h | h
 ·have:=hp i j h1 h2 h;have:=(inL L)[i].len_pos;omega
 ·exact h
 ·have:=hp j i h2 h1 h;have:=(inL L)[j].len_pos;omega
theorem val_in {ts:List Tk}{L:List Dl} (H:Right ts L) {ins:List (List Int)}{R:Nat→Nat→Int}{m:Nat}{x:Dl} (hx:(inL L)[m]? = some x) (n:Nat):valV ts L ins R (nameD ts x).data.toList n=elemF ins m n:=by
 obtain ⟨j,hj⟩:=ix_some (p:=nmIs ts (nameD ts x).data.toList) (List.mem_of_getElem? hx) (by unfold nmIs;simp)
 have hj':inIx ts L (nameD ts x).data.toList=some j:=hj
 obtain ⟨g1,g2,_⟩:=List.findIdx?_eq_some_iff_getElem.1 hj
 have:=H.sameIn (List.getElem?_eq_getElem g1) hx (by simpa [nmIs] using g2)
 subst this
 unfold valV
 rw [hj']
theorem val_eq {ts:List Tk}{L:List Dl} (H:Right ts L) {ins:List (List Int)}{R:Nat→Nat→Int}{m:Nat}{x:Dl} (hx:(eqL L)[m]? = some x) (n:Nat):valV ts L ins R (nameD ts x).data.toList n=R m n:=by
 obtain ⟨j,hj⟩:=ix_some (p:=nmIs ts (nameD ts x).data.toList) (List.mem_of_getElem? hx) (by unfold nmIs;simp)
 have hj':eqIx ts L (nameD ts x).data.toList=some j:=hj
 obtain ⟨z,hz,hn⟩:=eqIx_some hj'
 have:=H.same hz hx hn
 subst this
 have hi:inIx ts L (nameD ts x).data.toList=none:=by
  cases hi:inIx ts L (nameD ts x).data.toList with
  | none=>rfl
  | some i=>
   exfalso
   obtain ⟨g1,g2,_⟩:=List.findIdx?_eq_some_iff_getElem.1 hi
   have g3:(nameD ts (inL L)[i]).data.toList=(nameD ts x).data.toList:=by simpa [nmIs] using g2
   have m1:=List.mem_filter.1 (List.getElem_mem g1)
   have m2:=List.mem_filter.1 (List.mem_of_getElem? hx)
   obtain ⟨a,ha,ea⟩:=List.getElem_of_mem m1.1
   obtain ⟨b,hb,eb⟩:=List.getElem_of_mem m2.1
   have hab:=H.one (List.getElem?_eq_getElem ha) (List.getElem?_eq_getElem hb) (by rw [ea,eb];exact g3)
   subst hab
   rw [ea] at eb
   have k1:(inL L)[i].kind=0:=by simpa using m1.2
   have k2:x.kind≠0:=by simpa using m2.2
   exact k2 (by rw [← eb];exact k1)
 unfold valV
 rw [hi,hj']
structure Both2 (ts:List Tk) (L:List Dl) (ds:List Dc) (ns:List Nd):Prop where
 N:NamesOk ts L ds
 sp:∀ x∈L,x.kind≠0→Sp ts x.t (x.i+5)∧x.i+5+x.t.len≤ts.length
 decl:∀ x∈L,x.kind≠0→∀ y∈nmD ts x.t (x.i+5) false,0≤findF ds (tkAt ts y.1).text
 dx:All2 (DX ts (bindF ds) ns) ds L
theorem both2 {ts:List Tk} (hF:∀ i,TkF (tkAt ts i)) (hE:∀ i,(tkAt ts i).kind=0→ts.length≤i+1) (L:List Dl) (hL:Spell ts L 0) (hn:namesR ts L=none) :
  Both2 ts L (declsD ts L 0 0 0) ((nodesD ts L 0).map (bindF (declsD ts L 0 0 0))):=by
 obtain ⟨ds,hds⟩:∃ ds,ds=declsD ts L 0 0 0:=⟨_,rfl⟩
 obtain ⟨ns,hns⟩:∃ ns,ns=(nodesD ts L 0).map (bindF ds):=⟨_,rfl⟩
 rw [← hds,← hns]
 have hnm:ds.map Dc.name=L.map (nameD ts):=by rw [hds];exact declsD_names ts L 0 0 0
 have hnames:badNameF ds ns 0 ds=namesR ts L:=by
  have:=names_eq hF hE L hL ds hnm L [] 0 0 0 0 [] [] rfl hL (by omega) (by rw [List.nil_append];exact hds) rfl rfl
  rw [List.nil_append,← hns,← hds] at this
  exact this
 have hdx:All2 (DX ts (bindF ds) ns) ds L:=by
  have:=dx_all ts (bindF ds) L 0 0 0 [] rfl
  rw [List.nil_append,← hns,← hds] at this
  exact this
 rw [hn] at hnames
 have hN:NamesOk ts L ds:=⟨fun j hj=>by have:=badName_own ds 0 hnames j hj;rw [this,Nat.zero_add],dx_two hdx⟩
 have hsp:∀ x∈L,x.kind≠0→Sp ts x.t (x.i+5)∧x.i+5+x.t.len≤ts.length:=by
  intro x hx hk
  obtain ⟨_,h2,h3⟩:=spell_mem _ _ hL x hx
  have hlen:x.len=x.t.len+6:=by unfold Dl.len;rw [if_neg hk]
  refine ⟨?_,by omega⟩
  rcases h3 with ⟨h,_⟩ | ⟨_,_,_,_,_,h,_⟩
  ·exact absurd h hk
  ·exact h
 refine ⟨hN,hsp,?_,hdx⟩
 intro x hx hk y hy
 obtain ⟨k,hk2,rfl⟩:=List.getElem_of_mem hx
 rcases hdx.getOpt k with ⟨_,h2⟩ | ⟨d,z,h1,h2,h3⟩
 ·rw [List.getElem?_eq_getElem hk2] at h2;cases h2
 ·rw [List.getElem?_eq_getElem hk2] at h2
  cases h2
  have hnone:=badName_none ds 0 hnames d (List.mem_of_getElem? h1)
  obtain ⟨o,ho⟩:=h3.some hk
  have hmem:bindF ds (nmNd ts y)∈seg ns d.root d.fin:=by
   rw [ho]
   have:bindF ds (nmNd ts y)∈(((flat ts (L[k]'hk2).t ((L[k]'hk2).i+5) 0 o).map (bindF ds)).filter fun n=>n.kind == 2):=by
    rw [bind_filter,flat_names hF _ _ _ _ (hsp _ hx hk).1]
    exact List.mem_map.2 ⟨_,List.mem_map.2 ⟨y,hy,rfl⟩,rfl⟩
   exact (List.mem_filter.1 this).1
  have:=badNode_none _ hnone _ hmem (by rw [bind_nm];rfl)
  rw [bind_nm] at this
  exact this
theorem seg_get {ns:List Nd}{a b i:Nat} (h1:a≤i) (h2:i<b):(seg ns a b)[i - a]? = ns[i]?:=by
 unfold seg
 rw [List.getElem?_take,if_pos (by omega),List.getElem?_drop,Nat.add_sub_cancel' h1]
theorem mark_of {ds:List Dc}{ns:List Nd}{a i:Nat}{d:Dc}{n:Nd} (hd:ds[a]? = some d) (hn:ns[i]? = some n) (h1:d.root≤i) (h2:i<d.fin) (hk:n.kind=2) (hl:n.delayed=false) (hq:kindAt ds n.decl≠0):markAll ds ns 0 ds noM a n.decl.toNat=true:=by
 rw [markAll_eq,Nat.sub_zero,hd,Option.any_some]
 have:((seg ns d.root d.fin).any fun m=>m.kind == 2 && (!m.delayed && (kindAt ds m.decl != 0 && m.decl.toNat == n.decl.toNat)))=true:=by
  rw [List.any_eq_true]
  refine ⟨n,List.mem_of_getElem? ((seg_get h1 h2).trans hn),?_⟩
  simp [hk,hl,hq]
 rw [this];simp
theorem ranked_of {ts:List Tk}{L:List Dl} (H:Right ts L) {ds:List Dc}{ns:List Nd} (hB:Both2 ts L ds ns):Ranked ds (markAll ds ns 0 ds noM) (fun a=>rk ts L (cntE L a)):=by
 have hisE:∀ (a:Nat) (d:Dc),ds[a]? = some d→d.kind≠0→isE L a=true:=fun a d hd hk=>by
  rcases hB.dx.getOpt a with ⟨h1,_⟩ | ⟨d',x,h1,h2,h3⟩
  ·rw [h1] at hd;cases hd
  ·rw [hd] at h1;cases h1
   unfold isE;rw [h2];simp [← h3.kind,hk]
 have hlt:∀ a,isE L a=true→cntE L a<(eqL L).length:=fun a ha=>by
  have h1:=cntE_get L a ha
  cases h2:L[a]? with
  | none=>unfold isE at ha;rw [h2] at ha;simp at ha
  | some x=>rw [h2] at h1;exact (List.getElem?_eq_some_iff.1 h1).1
 constructor
 ·intro a b h
  have ha:isE L a=true:=by
   cases ha:isE L a with
   | true=>rfl
   | false=>rw [mark_none hB.dx a b ha] at h;cases h
  have hb:∃ d,ds[b]? = some d∧d.kind≠0:=by
   rw [markAll_eq,Nat.sub_zero] at h
   simp only [noM,Bool.false_or,Bool.and_eq_true] at h
   cases hd:ds[a]? with
   | none=>rw [hd] at h;simp at h
   | some d=>
    rw [hd,Option.any_some,List.any_eq_true] at h
    obtain ⟨n,_,hn⟩:=h.2
    simp only [Bool.and_eq_true,bne_iff_ne,beq_iff_eq] at hn
    obtain ⟨_,_,h3,h4⟩:=hn
    unfold kindAt at h3
    rw [h4,List.getD_eq_getElem?_getD] at h3
    cases hb:ds[b]? with
    | none=>rw [hb] at h3;exact absurd rfl h3
    | some e=>rw [hb] at h3;exact ⟨e,rfl,h3⟩
  obtain ⟨d,hd,hk⟩:=hb
  refine ⟨?_,d,hd,hk⟩
  have hb:=hisE b d hd hk
  rw [mark_rel H.F hB.N hB.sp hB.decl hB.dx a b ha hb] at h
  exact rk_less H.cyc (hlt b hb) h
 ·intro a d hd hk
  have h1:=hlt a (hisE a d hd hk)
  have h2:=rk_lt H.cyc h1
  have h3:(eqL L).length≤L.length:=List.length_filter_le _ _
  have h4:L.length=ds.length:=hB.dx.len
  show rk ts L (cntE L a)<ds.length
  omega
set_option maxHeartbeats 1000000 in
theorem meant_of {ts:List Tk}{L:List Dl} (H:Right ts L) (hT:typesR ts L=none) (ins:List (List Int)) {ds:List Dc}{ns:List Nd} (hds:ds=declsD ts L 0 0 0) (hns:ns=(nodesD ts L 0).map (bindF ds)) (hB:Both2 ts L ds ns)
  (hcov:∀ i,i<ns.length→∃ d∈ds,d.root≤i∧i<d.fin) (hsg:∀ d∈ds,(d.root=0∧d.fin=0∧d.kind=0)∨(d.root<d.fin∧d.fin≤ns.length)) (hdr:∀ n∈ns,n.kind=2→0≤n.decl∧n.decl<(ds.length:Int)) :
  ∃ NV,Meant ds ns ins NV∧∀ (j:Nat) (d:Dc) (k:Nat),(eqsF ds)[j]? = some d→NV k d.root=sol ts L ins j k:=by
 have hY:=dy_all ts (bindF ds) (valV ts L ins (sol ts L ins)) L 0 0 0 [] (fun _=>[]) rfl (fun _=>rfl)
 simp only [List.nil_append] at hY
 rw [← hds,← hns] at hY
 have hat:∀ (a:Nat) (d:Dc),ds[a]? = some d→∃ x,L[a]? = some x∧DY ts (bindF ds) ns (valV ts L ins (sol ts L ins)) (fun k=>valsD ts (valV ts L ins (sol ts L ins)) k L) d x:=fun a d hd=>by
  rcases hY.getOpt a with ⟨h1,_⟩ | ⟨d',x,h1,h2,h3⟩
  ·rw [h1] at hd;cases hd
  ·rw [hd] at h1;cases h1;exact ⟨x,h2,h3⟩
 have hnum:∀ (a:Nat) (d:Dc) (x:Dl),ds[a]? = some d→L[a]? = some x→(x.kind=0→∃ m,d.number=m∧(inL L)[m]? = some x)∧(x.kind≠0→∃ m,d.number=m∧(eqL L)[m]? = some x):=fun a d x h1 h2=>by
  rw [hds] at h1
  have:=decls_num ts L 0 0 0 a d x h1 h2
  simpa only [Nat.zero_add] using this
 have hmemE:∀ (a:Nat) (x:Dl),L[a]? = some x→x.kind≠0→x∈eqL L:=fun a x hx hk=>List.mem_filter.2 ⟨List.mem_of_getElem? hx,by simpa using hk⟩
 -- the value at the root of an equation
 have hroot:∀ (a:Nat) (d:Dc) (x:Dl) (m k:Nat),ds[a]? = some d→L[a]? = some x→x.kind≠0→(eqL L)[m]? = some x→(valsD ts (valV ts L ins (sol ts L ins)) k L).getD d.root 0=sol ts L ins m k:=fun a d x m k h1 h2 hk hm=>by
  obtain ⟨x',h3,h4⟩:=hat a d h1
  rw [h2] at h3;cases h3
  obtain ⟨hm1,hm2⟩:=List.getElem?_eq_some_iff.1 hm
  rw [flatV_head (h4.vals hk k),sol_eq H.toEqs m k hm1,hm2]
 refine ⟨fun k i=>(valsD ts (valV ts L ins (sol ts L ins)) k L).getD i 0,⟨?_,?_,?_,?_,?_,hdr,?_⟩,?_⟩
 ·intro i hi
  obtain ⟨d,hd,h1,h2⟩:=hcov i hi
  obtain ⟨a,ha,rfl⟩:=List.getElem_of_mem hd
  obtain ⟨x,hx,hy⟩:=hat a _ (List.getElem?_eq_getElem ha)
  refine ⟨a,_,List.getElem?_eq_getElem ha,fun e=>?_,h1,h2⟩
  have:=hy.zero (by rw [← hy.kind];exact e)
  omega
 ·intro i n hn k
  have hi:=(List.getElem?_eq_some_iff.1 hn).1
  obtain ⟨d,hd,h1,h2⟩:=hcov i hi
  obtain ⟨a,ha,rfl⟩:=List.getElem_of_mem hd
  obtain ⟨x,hx,hy⟩:=hat a _ (List.getElem?_eq_getElem ha)
  have hk:x.kind≠0:=fun e=>by have:=hy.zero e;omega
  have hf:=hy.fin hk
  have hxe:=hmemE a x hx hk
  obtain ⟨hs,hl⟩:=H.sp x hxe
  have hw:wrongR ts L x.t (x.i+5) (wB (x.kind == 2))=none:=by
   have:=hT
   unfold typesR at this
   rw [List.findSome?_eq_none_iff] at this
   exact this x hxe
  have hX:=hy.vals hk
  have hlt:i - ds[a].root<(flat ts x.t (x.i+5) 0 ds[a].root).length:=by
   rw [flat_len]
   have h1':=h1
   have h2':=h2
   rw [hf] at h2'
   generalize ds[a].root=rr at *
   omega
  have key:=flat_val H.F (L:=L) (ds:=ds) (ins:=ins) (V:=valV ts L ins (sol ts L ins)) (k:=k) (X:=fun i=>(valsD ts (valV ts L ins (sol ts L ins)) k L).getD i 0) (Y:=fun i=>(valsD ts (valV ts L ins (sol ts L ins)) (k - 1) L).getD i 0) (val_bit H (fun j n x hx hk=>sol_bit H hT j n x hx hk)) x.t (x.i+5) 0 ds[a].root (wB (x.kind == 2)) hs hl hw ?_ (hX k) (fun _=>hX (k - 1))
  ·rw [allAt_get] at key
   obtain ⟨n',hn'⟩:∃ n',(flat ts x.t (x.i+5) 0 ds[a].root)[i - ds[a].root]? = some n':=⟨_,List.getElem?_eq_getElem hlt⟩
   have h3:=(allAt_get _ _).1 (hy.nodes hk) _ _ hn'
   rw [Nat.add_sub_cancel' h1,hn] at h3
   cases h3
   have:=key _ _ hn'
   rw [Nat.add_sub_cancel' h1] at this
   exact this
  ·intro j hj
   have hjl:=nms_lt x.t _ j hj
   obtain ⟨z,hz,he⟩:=H.decl j (by omega) (nms_nm x.t _ j hj)
   have hfd:0≤findF ds (tkAt ts j).text:=by
    rw [nms_nmD ts x.t _ false] at hj
    obtain ⟨y,hy,rfl⟩:=List.mem_map.1 hj
    exact hB.decl x (List.mem_of_getElem? hx) hk y hy
   obtain ⟨b,hb,rfl⟩:=List.getElem_of_mem hz
   have hbd:b<ds.length:=by have:=hB.dx.len;omega
   obtain ⟨z',hz',hyb⟩:=hat b _ (List.getElem?_eq_getElem hbd)
   rw [List.getElem?_eq_getElem hb] at hz'
   cases hz'
   have hfb:findF ds (tkAt ts j).text=(b:Int):=by
    have h5:=hB.N.own b hbd
    rw [findF_name ds (b:=(tkAt ts j).text) (by rw [hyb.name];exact he)] at h5
    exact h5
   have hgd:ds.getD b ⟨0,0,⟨#[]⟩,0,0,0,0⟩=ds[b]:=by rw [List.getD_eq_getElem?_getD,List.getElem?_eq_getElem hbd];rfl
   unfold nameF kindAt numAt rootAt
   rw [hfb]
   simp only [Int.toNat_natCast]
   rw [hgd,hyb.kind]
   have hnb:=hnum b ds[b] L[b] (List.getElem?_eq_getElem hbd) (List.getElem?_eq_getElem hb)
   by_cases hkb:L[b].kind=0
   ·rw [if_pos hkb]
    obtain ⟨m,hm,hg⟩:=hnb.1 hkb
    rw [← he,val_in H hg,hm]
   ·rw [if_neg hkb]
    obtain ⟨m,hm,hg⟩:=hnb.2 hkb
    rw [← he,val_eq H hg]
    exact (hroot b _ _ m k (List.getElem?_eq_getElem hbd) (List.getElem?_eq_getElem hb) hkb hg).symm
 ·intro a d hd hk i n hn h1 h2 c hc
  obtain ⟨x,hx,hy⟩:=hat a d hd
  have hkx:x.kind≠0:=by rw [← hy.kind];exact hk
  have hf:=hy.fin hkx
  have hD:AllAt (fun j n=>dlAt ns j=n.delayed) d.root (flat ts x.t (x.i+5) 0 d.root):=by
   refine AllAt.mono (fun j m h=>?_) _ _ (hy.nodes hkx)
   unfold dlAt
   rw [h]
   show (bindF ds m).delayed=_
   unfold bindF;split <;> rfl
  have key:=flat_kids x.t (x.i+5) 0 d.root d.fin (by omega) hD
  obtain ⟨n',hn'⟩:∃ n',(flat ts x.t (x.i+5) 0 d.root)[i - d.root]? = some n':=⟨_,List.getElem?_eq_getElem (by rw [flat_len];omega)⟩
  have h3:=(allAt_get _ _).1 (hy.nodes hkx) _ _ hn'
  rw [Nat.add_sub_cancel' h1,hn] at h3
  cases h3
  have e1:needs (bindF ds n')=needs n':=by
   obtain ⟨k1,k2,k3,k4⟩:=bindF_keep ds n'
   unfold needs;rw [k1,k2,k3,k4]
  have e2:(bindF ds n').delayed=n'.delayed:=by unfold bindF;split <;> rfl
  rw [e1] at hc
  rw [e2]
  have:=(allAt_get _ _).1 key _ _ hn' c hc
  rw [Nat.add_sub_cancel' h1] at this
  exact this
 ·intro a d hd hk
  obtain ⟨x,hx,hy⟩:=hat a d hd
  have hkx:x.kind≠0:=by rw [← hy.kind];exact hk
  obtain ⟨n,l,e,hn⟩:=flat_head x.t (x.i+5) 0 d.root (ts:=ts)
  have h:=hy.nodes hkx
  rw [e] at h
  have h1:=h.1
  refine ⟨(List.getElem?_eq_some_iff.1 h1).1,?_⟩
  unfold dlAt
  rw [h1]
  show (bindF ds n).delayed=false
  have:(bindF ds n).delayed=n.delayed:=by unfold bindF;split <;> rfl
  rw [this,hn];rfl
 ·intro a d hd hk
  rcases hsg d (List.mem_of_getElem? hd) with ⟨_,_,h⟩ | h
  ·exact absurd h hk
  ·exact h
 ·intro a d hd _ i n hn h1 h2 hk hl hq
  exact mark_of hd hn h1 h2 hk hl hq
 ·intro j d k hj
  have hmem:=List.mem_of_getElem? hj
  have hE:All2 (DY ts (bindF ds) ns (valV ts L ins (sol ts L ins)) (fun k=>valsD ts (valV ts L ins (sol ts L ins)) k L)) (eqsF ds) (eqL L):=All2.filter (fun d x h=>by rw [h.kind]) hY
  rcases hE.getOpt j with ⟨h1,_⟩ | ⟨d',x,h1,h2,h3⟩
  ·rw [h1] at hj;cases hj
  ·rw [hj] at h1;cases h1
   obtain ⟨hm1,hm2⟩:=List.getElem?_eq_some_iff.1 h2
   have hk:x.kind≠0:=by simpa using (List.mem_filter.1 (List.mem_of_getElem? h2)).2
   show (valsD ts (valV ts L ins (sol ts L ins)) k L).getD d.root 0=_
   rw [flatV_head (h3.vals hk k),sol_eq H.toEqs j k hm1,hm2]
end Go.Proofs.YtmndgoapkmhglaaGreat
namespace Go.Proofs.YtmndgoapkmhglaaGreat
open Go.RowKit
attribute [local go_sem ↓] Go.wp_at_zero Go.wp_at_succ
theorem ready_any (w:World) (g r n ch cd:Nat) (H D:Nat→Bool) (hg:w.rowIs g 4 n (fun j=>.bool (H j))) (hr:w.rowIs r 4 n (fun j=>.bool (D j))) (hn:n≤1501) :
  Calls Tryz.prog 66 #[.slice (some ⟨g,0,none⟩) n ch,.slice (some ⟨r,0,none⟩) n cd] w fun e w'=>e = .returned (.bool (decide (∀ j,j<n→H j=true→D j=true)))∧w=w':=by
 go_enter Tryz.func66,Tryz.ntmps66
 go_wp2
 go_loopw [9] (fun vi wr=>∃ i:Nat,i≤n∧vi = .int .i64 i∧w=wr∧∀ j,j<i→H j=true→D j=true) (fun vi _=>n - (intOf vi).toNat)
 case atStart=>exact ⟨0,Nat.zero_le _,rfl,rfl,fun j hj=>by omega⟩
 case round=>
  obtain ⟨i,hi,rfl,rfl,hall⟩:=hrel
  by_cases hlt:i<n
  ·have x1:=hg.cell hlt
   have x2:=hr.cell hlt
   have j1:(0:Int)≤(i:Int):=by omega
   have j2:(i:Int)<(n:Int):=by omega
   have HALL:=hide hall
   clear hall
   by_cases hh:H i=true
   ·by_cases hd:D i=true
    ·go_wp2
     go_roundw
     case rel=>exact ⟨i+1,by omega,by go_num,by first | rfl | trivial,fun j hj h=>by rcases Nat.lt_succ_iff_lt_or_eq.1 hj with h' | rfl;exact HALL.out j h' h;exact hd⟩
     case measure=>simp [intOf];omega
    ·have hd':D i=false:=by simpa using hd
     have HF:Hid (decide (∀ j,j<n→H j=true→D j=true)=false):=hide (by rw [decide_eq_false_iff_not];exact fun h=>hd (h i hlt hh))
     clear hd
     go_wp2
     go_ret
     exact ⟨by rw [HF.out];rfl,rfl⟩
   ·have hh':H i=false:=by simpa using hh
    have HNO:=hide hh
    clear hh
    go_wp2
    go_roundw
    case rel=>exact ⟨i+1,by omega,by go_num,by first | rfl | trivial,fun j hj h=>by rcases Nat.lt_succ_iff_lt_or_eq.1 hj with h' | rfl;exact HALL.out j h' h;exact absurd h HNO.out⟩
    case measure=>simp [intOf];omega
  ·have HF:Hid (decide (∀ j,j<n→H j=true→D j=true)=true):=hide (by rw [decide_eq_true_iff];exact fun j hj=>hall j (by omega))
   clear hall
   go_wp2
   go_ret
   exact ⟨by rw [HF.out];rfl,rfl⟩
end Go.Proofs.YtmndgoapkmhglaaGreat
namespace Go.Proofs.YtmndgoapkmhglaaGreat
def OpsOk (nc:Nat) (s:WSt):Prop:=∀ (j:Nat) (o:OpF),s.ops[j]? = some o→opOk nc j o=true
theorem opsOk_add {nc:Nat}{s:WSt} (h:OpsOk nc s) {o:OpF} (ho:opOk nc s.ops.length o=true):OpsOk nc (wAdd s o).1:=by
 intro j x hj
 simp only [wAdd] at hj
 by_cases hl:j<s.ops.length
 ·rw [List.getElem?_append_left hl] at hj;exact h j x hj
 ·rw [List.getElem?_append_right (by omega)] at hj
  have:j - s.ops.length=0:=by
   have:=(List.getElem?_eq_some_iff.1 hj).1;simp at this;omega
  rw [this] at hj
  have e:o=x:=by simpa using hj
  have e2:j=s.ops.length:=by omega
  rw [← e,e2];exact ho
theorem opOk_0 (nc j:Nat) (k a:Int) (hk:k=0∨k=1∨k=2∨k=4):opOk nc j ⟨k,a,0,0⟩=true:=by
 rcases hk with rfl | rfl | rfl | rfl <;> simp [opOk,readsF,opArgs]
theorem regOk_nat {j r:Nat} (h:r<j):regOk j (r:Int)=true:=by unfold regOk;simp;omega
theorem opOk_3 {nc j c:Nat} (h:c<nc):opOk nc j ⟨3,(c:Int),0,0⟩=true:=by
 unfold opOk;simp [readsF,opArgs,regOk_nat h]
theorem opOk_13 {nc j a:Nat} (h:a<j):opOk nc j ⟨13,(a:Int),0,0⟩=true:=by
 unfold opOk;simp [readsF,opArgs,regOk_nat h]
theorem opOk_14 {nc j a b c:Nat} (h:a<j) (h2:b<j) (h3:c<j):opOk nc j ⟨14,(a:Int),(b:Int),(c:Int)⟩=true:=by
 unfold opOk;simp [readsF,opArgs,regOk_nat h,regOk_nat h2,regOk_nat h3]
theorem opOk_op {nc j a b k:Nat} (h5:5≤k) (h12:k≤12) (h:a<j) (h2:b<j):opOk nc j ⟨(k:Int),(a:Int),(b:Int),0⟩=true:=by
 have e:readsF (k:Int)=2:=by unfold readsF;rw [if_neg (by omega),if_neg (by omega),if_neg (by omega)]
 unfold opOk opArgs
 simp only [e]
 simp [regOk_nat h,regOk_nat h2];omega
theorem opOf_num {l:List UInt8} (h:(opOf l).isSome=true):5≤(opOf l).getD 0∧(opOf l).getD 0≤12:=by
 rcases op_some h with rfl | rfl | rfl | rfl | rfl | rfl | rfl | rfl <;> decide
structure NmA (E:WEnv) (V:List UInt8→Nat→Int) (I K:Nat→List Int) (j:Nat):Prop where
 inp:kindAt E.ds (leafB E j 0).decl=0→∀ k,atF (I k) ((numAt E.ds (leafB E j 0).decl:Nat):Int)=V (lAt E.ts j) k
 pro:kindAt E.ds (leafB E j 0).decl≠0→((plAt E.ds (leafB E j 0).decl:Nat):Int)≠E.pl→(wLink E (leafB E j 0)).2=false→∀ k,atF (K k) (((wLink E (leafB E j 0)).1:Nat):Int)=V (lAt E.ts j) k
 lat:kindAt E.ds (leafB E j 0).decl≠0→((plAt E.ds (leafB E j 0).decl:Nat):Int)≠E.pl→(wLink E (leafB E j 0)).2=true→∀ k,atF (K (k+1)) (((wLink E (leafB E j 0)).1:Nat):Int)=V (lAt E.ts j) k
 own:kindAt E.ds (leafB E j 0).decl≠0→((plAt E.ds (leafB E j 0).decl:Nat):Int)=E.pl→(wLink E (leafB E j 0)).2=false
 prm:lAt E.ts (j - 1)≠kFby→(wLink E (leafB E j 0)).2=false
def OwnT (E:WEnv) (top j:Nat):Prop:=kindAt E.ds (leafB E j 0).decl≠0→((plAt E.ds (leafB E j 0).decl:Nat):Int)=E.pl→E.rs.getD (leafB E j 0).decl.toNat 0<top
theorem OwnT.mono {E:WEnv}{top top' j:Nat} (h:OwnT E top j) (hl:top≤top'):OwnT E top' j:=fun a b=>Nat.lt_of_lt_of_le (h a b) hl
theorem name_dl (E:WEnv) (s:WSt) (i dl:Nat):wName E s (leafB E i dl)=wName E s (leafB E i 0):=by
 obtain ⟨_,h2,_⟩:=leafB_dl E i dl 0
 unfold wName;rw [h2,wLink_dl E i dl 0]
theorem leaf_kind {ts:List Tk} (hF:∀ i,TkF (tkAt ts i)) (E:WEnv) (he:E.ts=ts) {i dl:Nat} (h:leafT (tkAt ts i)=true):(leafB E i dl).kind=2↔(tkAt ts i).kind=1:=by
 have hk:(leafB E i dl).kind=(leafN0 (tkAt ts i)).kind:=by
  unfold leafB;rw [he]
  rw [(bindF_keep E.ds _).1];rfl
 rw [hk]
 by_cases h1:(tkAt ts i).kind=1
 ·rw [leafN0_name (hF i) h1];simp [h1]
 ·simp [h1,leafN0_no h h1]
theorem late_leaf {E:WEnv}{b:Ast}{i:Nat} (h:lateB E b i=true):b = .leaf∧(wLink E (leafB E i 0)).2=true:=by
 cases b <;> simp [lateB] at h ⊢
 exact h
theorem link_true {E:WEnv}{n:Nd} (h:(wLink E n).2=true):n.kind=2∧kindAt E.ds n.decl≠0:=by
 unfold wLink at h
 split at h
 ·cases h
 ·rename_i h1;exact ⟨Classical.byContradiction fun e=>h1 (.inl e),fun e=>h1 (.inr e)⟩
section
variable {E:WEnv} (hF:∀ i,TkF (tkAt E.ts i))
include hF
omit hF in
theorem wn_ok {nc:Nat}{s:WSt}{j:Nat} (ho:OwnT E s.ops.length j) (hs:OpsOk nc s):(wName E s (leafB E j 0)).2<(wName E s (leafB E j 0)).1.ops.length∧OpsOk nc (wName E s (leafB E j 0)).1:=by
 unfold wName
 by_cases h:kindAt E.ds (leafB E j 0).decl=0
 ·rw [if_pos h];exact ⟨by simp [wAdd],opsOk_add hs (opOk_0 _ _ _ _ (.inr (.inl rfl)))⟩
 ·rw [if_neg h]
  by_cases h2:((plAt E.ds (leafB E j 0).decl:Nat):Int)=E.pl
  ·rw [if_pos h2];exact ⟨ho h h2,hs⟩
  ·rw [if_neg h2];exact ⟨by simp [wAdd],opsOk_add hs (opOk_0 _ _ _ _ (.inr (.inr (.inl rfl))))⟩
theorem wx_ok {nc:Nat}:∀ (t:Ast) (i dl o:Nat) (s:WSt),Sp E.ts t i→(∀ j∈und E.ts t i,OwnT E s.ops.length j)→
  (∀ j∈nms E.ts t i,(wLink E (leafB E j 0)).2=true→((plAt E.ds (leafB E j 0).decl:Nat):Int)≠E.pl)→(wExpr E t i dl o s).1.cells.length≤nc→OpsOk nc s→
  (wExpr E t i dl o s).2<(wExpr E t i dl o s).1.ops.length∧OpsOk nc (wExpr E t i dl o s).1:=by
 intro t
 induction t with
 | leaf=>
  intro i dl o s hs hu hn hc hok
  simp only [wExpr,wLeaf]
  by_cases h1:(leafB E i dl).kind=2
  ·rw [if_pos h1,name_dl]
   have hk:=(leaf_kind hF E rfl hs.1).1 h1
   exact wn_ok (hu i (by simp only [und];rw [if_pos hk];simp)) hok
  ·rw [if_neg h1];exact ⟨by simp [wAdd],opsOk_add hok (opOk_0 _ _ _ _ (.inl rfl))⟩
 | neg a iha=>
  intro i dl o s hs hu hn hc hok
  obtain ⟨h1,h2⟩:=iha (i+2) dl (o+1) s hs.2.2.1 hu hn hc hok
  exact ⟨by simp [wExpr,wAdd],opsOk_add h2 (opOk_13 h1)⟩
 | ite a b c iha ihb ihc=>
  intro i dl o s hs hu hn hc hok
  obtain ⟨_,_,sa,sb,sc,_⟩:=hs
  simp only [und,nms,List.mem_append] at hu hn
  obtain ⟨x,hx⟩:∃ x,x=wExpr E a (i+2) dl (o+1) s:=⟨_,rfl⟩
  obtain ⟨y,hy⟩:∃ y,y=wExpr E b (i+2+a.len) dl (o+1+a.size) x.1:=⟨_,rfl⟩
  obtain ⟨z,hz⟩:∃ z,z=wExpr E c (i+2+a.len+b.len) dl (o+1+a.size+b.size) y.1:=⟨_,rfl⟩
  have px:Pre s x.1:=by rw [hx];exact pre_expr E _ _ _ _ _
  have py:Pre x.1 y.1:=by rw [hy];exact pre_expr E _ _ _ _ _
  have pz:Pre y.1 z.1:=by rw [hz];exact pre_expr E _ _ _ _ _
  have e:wExpr E (.ite a b c) i dl o s=wAdd z.1 ⟨14,(x.2:Nat),(y.2:Nat),(z.2:Nat)⟩:=by simp only [wExpr];rw [← hx,← hy,← hz]
  rw [e] at hc ⊢
  have lx:=px.len
  have ly:=py.len
  have lz:=pz.len
  have hcz:z.1.cells.length≤nc:=by simpa [wAdd] using hc
  obtain ⟨a1,a2⟩:=iha (i+2) dl (o+1) s sa (fun j hj=>hu j (.inl hj)) (fun j hj=>hn j (.inl hj)) (by rw [← hx];omega) hok
  rw [← hx] at a1 a2
  obtain ⟨b1,b2⟩:=ihb (i+2+a.len) dl (o+1+a.size) x.1 sb (fun j hj=>(hu j (.inr (.inl hj))).mono (by omega)) (fun j hj=>hn j (.inr (.inl hj))) (by rw [← hy];omega) a2
  rw [← hy] at b1 b2
  obtain ⟨c1,c2⟩:=ihc (i+2+a.len+b.len) dl (o+1+a.size+b.size) y.1 sc (fun j hj=>(hu j (.inr (.inr hj))).mono (by omega)) (fun j hj=>hn j (.inr (.inr hj))) (by rw [← hz];omega) b2
  rw [← hz] at c1 c2
  exact ⟨by simp [wAdd],opsOk_add c2 (opOk_14 (by omega) (by omega) c1)⟩
 | dly b ihb=>
  intro i dl o s hs hu hn hc hok
  simp only [wExpr] at hc ⊢
  by_cases hl:lateB E b (i+3)=true
  ·rw [if_pos hl]
   obtain ⟨rfl,h2⟩:=late_leaf hl
   have hk:=(leaf_kind hF E rfl (i:=i+3) (dl:=0) hs.2.2.2.1.1).1 (link_true h2).1
   have hne:=hn (i+3) (by simp only [nms];rw [if_pos hk];simp) h2
   have ho:OwnT E (wAdd (wAdd s ⟨4,0,0,0⟩).1 ⟨0,((leafB E (i+1) dl).value:Nat),0,0⟩).1.ops.length (i+3):=fun _ e=>absurd e hne
   have h3:=wn_ok ho (opsOk_add (opsOk_add hok (opOk_0 _ _ 4 _ (.inr (.inr (.inr rfl))))) (opOk_0 nc _ 0 ((leafB E (i+1) dl).value:Nat) (.inl rfl)))
   have h4:=(pre_name E (wAdd (wAdd s ⟨4,0,0,0⟩).1 ⟨0,((leafB E (i+1) dl).value:Nat),0,0⟩).1 (leafB E (i+3) 0)).len.1
   have h5:(wAdd (wAdd s ⟨4,0,0,0⟩).1 ⟨0,((leafB E (i+1) dl).value:Nat),0,0⟩).1.ops.length=s.ops.length+2:=by simp [wAdd]
   unfold wHand
   rw [name_dl]
   exact ⟨by simp [wAdd],opsOk_add h3.2 (opOk_14 (by omega) (by omega) h3.1)⟩
  ·rw [if_neg hl] at hc ⊢
   refine ⟨by simp [wCell],?_⟩
   simp only [wCell,List.length_append,List.length_singleton] at hc
   exact opsOk_add hok (opOk_3 (by omega))
 | bin a b iha ihb=>
  intro i dl o s hs hu hn hc hok
  obtain ⟨_,sa,so,sb,_⟩:=hs
  simp only [und,nms,List.mem_append] at hu hn
  obtain ⟨x,hx⟩:∃ x,x=wExpr E a (i+1) dl (o+1) s:=⟨_,rfl⟩
  obtain ⟨y,hy⟩:∃ y,y=wExpr E b (i+2+a.len) dl (o+1+a.size) x.1:=⟨_,rfl⟩
  have px:Pre s x.1:=by rw [hx];exact pre_expr E _ _ _ _ _
  have py:Pre x.1 y.1:=by rw [hy];exact pre_expr E _ _ _ _ _
  have e:wExpr E (.bin a b) i dl o s=wAdd y.1 ⟨((opOf (lAt E.ts (i+1+a.len))).getD 0:Nat),(x.2:Nat),(y.2:Nat),0⟩:=by simp only [wExpr];rw [← hx,← hy]
  rw [e] at hc ⊢
  have lx:=px.len
  have ly:=py.len
  have hcy:y.1.cells.length≤nc:=by simpa [wAdd] using hc
  obtain ⟨a1,a2⟩:=iha (i+1) dl (o+1) s sa (fun j hj=>hu j (.inl hj)) (fun j hj=>hn j (.inl hj)) (by rw [← hx];omega) hok
  rw [← hx] at a1 a2
  obtain ⟨b1,b2⟩:=ihb (i+2+a.len) dl (o+1+a.size) x.1 sb (fun j hj=>(hu j (.inr hj)).mono (by omega)) (fun j hj=>hn j (.inr hj)) (by rw [← hy];omega) a2
  rw [← hy] at b1 b2
  obtain ⟨n1,n2⟩:=opOf_num so
  exact ⟨by simp [wAdd],opsOk_add b2 (opOk_op n1 n2 (by omega) b1)⟩
end
theorem lays_op {l:List UInt8} (h:(opOf l).isSome=true) {n:Int}{rg cells ins links:List Int}{a b:Nat}{A B:Int} (ha:atF rg (a:Int)=A) (hb:atF rg (b:Int)=B) (hbit:l=[38]∨l=[124]→Bit A∧Bit B) :
  laysF ⟨((opOf l).getD 0:Nat),(a:Int),(b:Int),0⟩ n rg cells ins links=apF l A B:=by
 rcases op_some h with rfl | rfl | rfl | rfl | rfl | rfl | rfl | rfl
 ·show w64 (atF rg a+atF rg b)=_;rw [ha,hb];rfl
 ·show w64 (atF rg a - atF rg b)=_;rw [ha,hb];rfl
 ·show w64 (atF rg a * atF rg b)=_;rw [ha,hb];rfl
 ·show apF [47] (atF rg a) (atF rg b)=_;rw [ha,hb]
 ·show b2i (decide (atF rg a<atF rg b))=_;rw [ha,hb];rfl
 ·show b2i (decide (atF rg a=atF rg b))=_;rw [ha,hb];rfl
 ·obtain ⟨h1,h2⟩:=hbit (.inl rfl)
  show b2i (decide (atF rg a≠0) && decide (atF rg b≠0))=_
  rw [ha,hb]
  rcases h1 with rfl | rfl <;> rcases h2 with rfl | rfl <;> decide
 ·obtain ⟨h1,h2⟩:=hbit (.inr rfl)
  show b2i (decide (atF rg a≠0) || decide (atF rg b≠0))=_
  rw [ha,hb]
  rcases h1 with rfl | rfl <;> rcases h2 with rfl | rfl <;> decide
def RgK (F:WSt) (I K C:Nat→List Int) (k:Nat):List Int:=regsF (k:Int) (C k) (I k) (K k) [] F.ops
structure Sem (E:WEnv) (F:WSt) (V:List UInt8→Nat→Int) (C:Nat→List Int):Prop where
 ok:OpsOk F.cells.length F
 c0:∀ (c:Nat) (x:Int),F.cells[c]? = some x→atF (C 0) (c:Int)=x
 cS:∀ (c:Nat) (l:Lt) (k:Nat),F.later[c]? = some l→atF (C (k+1)) (c:Int)=evT E.ts V l.t l.i k
def OwnW (E:WEnv) (F:WSt) (V:List UInt8→Nat→Int) (I K C:Nat→List Int) (j:Nat):Prop:=
 kindAt E.ds (leafB E j 0).decl≠0→((plAt E.ds (leafB E j 0).decl:Nat):Int)=E.pl→∀ k,atF (RgK F I K C k) ((E.rs.getD (leafB E j 0).decl.toNat 0:Nat):Int)=V (lAt E.ts j) k
section
variable {E:WEnv} {L:List Dl} {F:WSt} {V:List UInt8→Nat→Int} {I K C:Nat→List Int}
 (hF:∀ i,TkF (tkAt E.ts i)) (hV:∀ k n,k<E.ts.length→nameT E.ts L k=true→Bit (V (lAt E.ts k) n)) (hS:Sem E F V C)
include hF hS
omit hF in
theorem RgK_at {s:WSt}{o:OpF} (h:Pre (wAdd s o).1 F) (k:Nat):atF (RgK F I K C k) (((wAdd s o).2:Nat):Int)=laysF o (k:Int) (RgK F I K C k) (C k) (I k) (K k):=by
 have h1:(wAdd s o).1.ops[s.ops.length]? = some o:=by simp [wAdd]
 exact reg_at (h.op h1) (hS.ok _ _ (h.op h1))
omit hF in
theorem wn_val {s:WSt}{j:Nat} (hA:NmA E V I K j) (hO:OwnW E F V I K C j) (hl:(wLink E (leafB E j 0)).2=false) (hp:Pre (wName E s (leafB E j 0)).1 F) (k:Nat) :
  atF (RgK F I K C k) (((wName E s (leafB E j 0)).2:Nat):Int)=V (lAt E.ts j) k:=by
 unfold wName at hp ⊢
 by_cases h:kindAt E.ds (leafB E j 0).decl=0
 ·rw [if_pos h] at hp ⊢
  rw [RgK_at hS hp]
  exact hA.inp h k
 ·rw [if_neg h] at hp ⊢
  by_cases h2:((plAt E.ds (leafB E j 0).decl:Nat):Int)=E.pl
  ·rw [if_pos h2] at hp ⊢
   exact hO h h2 k
  ·rw [if_neg h2] at hp ⊢
   rw [RgK_at hS hp]
   exact hA.pro h h2 hl k
omit hS in
theorem leaf_value {i dl:Nat} (h:litT (tkAt E.ts i)=true):(leafB E i dl).kind≠2∧(((leafB E i dl).value:Nat):Int)=litV (tkAt E.ts i):=by
 have hlf:leafT (tkAt E.ts i)=true:=by unfold leafT;rw [h];rfl
 have hk1:(tkAt E.ts i).kind≠1:=by have:=lit_nm hF h;unfold isNm at this;simpa using this
 have hk:(leafB E i dl).kind≠2:=fun e=>hk1 ((leaf_kind hF E rfl hlf).1 e)
 refine ⟨hk,?_⟩
 have:=lit_val hF (ds:=E.ds) (ins:=[]) (k:=0) (X:=fun _=>0) (Y:=fun _=>0) (dl:=dl) h
 rw [this]
 show _=valF E.ds [] (leafB E i dl) 0 (fun _=>0) (fun _=>0)
 have hk6:(leafB E i dl).kind≤2:=by
  unfold leafB
  rw [(bindF_keep E.ds _).1,mkN_kind]
  unfold leafN0
  split;· simp
  split;· simp
  split;· simp
  ·simp
 unfold valF
 rw [if_neg hk,if_neg (by omega),if_neg (by omega),if_neg (by omega),if_neg (by omega)]
include hV in
theorem wx_val:∀ (t:Ast) (i dl o w:Nat) (s:WSt),Sp E.ts t i→i+t.len≤E.ts.length→wrongR E.ts L t i w=none→(∀ j∈nms E.ts t i,NmA E V I K j)→(∀ j∈und E.ts t i,OwnW E F V I K C j)→
  lateB E t i=false→s.cells.length=s.later.length→Pre (wExpr E t i dl o s).1 F→∀ k,atF (RgK F I K C k) (((wExpr E t i dl o s).2:Nat):Int)=evT E.ts V t i k:=by
 intro t
 induction t with
 | leaf=>
  intro i dl o w s hs hl hw hA hO hb hsm hp k
  simp only [wExpr,wLeaf] at hp ⊢
  by_cases h1:(leafB E i dl).kind=2
  ·rw [if_pos h1,name_dl] at hp ⊢
   have hk:=(leaf_kind hF E rfl hs.1).1 h1
   have hm:i∈nms E.ts .leaf i:=by simp only [nms];rw [if_pos hk];simp
   have hmu:i∈und E.ts .leaf i:=by simp only [und];rw [if_pos hk];simp
   rw [wn_val hS (hA i hm) (hO i hmu) hb hp k]
   unfold evT;rw [if_pos hk]
  ·rw [if_neg h1] at hp ⊢
   have hk:(tkAt E.ts i).kind≠1:=fun e=>h1 ((leaf_kind hF E rfl hs.1).2 e)
   have h2:litT (tkAt E.ts i)=true:=by
    have:=hs.1
    unfold leafT at this
    rwa [show ((tkAt E.ts i).kind == 1)=false by simpa using hk,Bool.or_false] at this
   rw [RgK_at hS hp]
   show (((leafB E i dl).value:Nat):Int)=_
   rw [(leaf_value hF h2).2]
   unfold evT;rw [if_neg hk]
 | neg a iha=>
  intro i dl o w s hs hl hw hA hO hb hsm hp k
  obtain ⟨_,g2,g3,_⟩:=hs
  simp only [Ast.len] at hl
  simp only [wrongR] at hw
  have hbit:=ev_bit hF hV a (i+2) k g3 (by omega) (bad_if hw).2
  have hla:lateB E a (i+2)=false:=by
   cases a <;> try rfl
   cases hx:lateB E .leaf (i+2) with
   | false=>rfl
   | true=>
    have h2:=(late_leaf hx).2
    have hk:=(leaf_kind hF E rfl (i:=i+2) (dl:=0) g3.1).1 (link_true h2).1
    have:=(hA (i+2) (by simp only [nms];rw [if_pos hk];simp)).prm (by rw [show i+2 - 1=i+1 by omega,g2];decide)
    rw [this] at h2;cases h2
  have hpa:Pre (wExpr E a (i+2) dl (o+1) s).1 F:=(pre_add _ _).trans hp
  have ih:=iha (i+2) dl (o+1) 116 s g3 (by omega) (bad_if hw).2 hA hO hla hsm hpa k
  simp only [wExpr] at hp ⊢
  rw [RgK_at hS hp]
  show b2i (decide (atF (RgK F I K C k) _=0))=w64 (1 - evT E.ts V a (i+2) k)
  rw [ih]
  rcases hbit with ha | ha <;> rw [ha] <;> rw [w64_id _ (by decide) (by decide)] <;> decide
 | ite a b c iha ihb ihc=>
  intro i dl o w s hs hl hw hA hO hb hsm hp k
  obtain ⟨_,g2,sa,sb,sc,_⟩:=hs
  simp only [Ast.len] at hl
  simp only [wrongR] at hw
  obtain ⟨_,hw⟩:=bad_if hw
  obtain ⟨wa,hw⟩:=or_none hw
  obtain ⟨wb,wc⟩:=or_none hw
  have hbit:=ev_bit hF hV a (i+2) k sa (by omega) wa
  simp only [und,nms,List.mem_append] at hA hO
  have hend:∀ (t:Ast) (m:Nat),Sp E.ts t m→lAt E.ts (m+t.len - 1)≠kFby:=fun t m hm=>by
   cases t with
   | leaf=>simp only [Ast.len,Nat.add_sub_cancel];exact leaf_ne hF hm.1 (by decide) (by decide) (by decide)
   | neg a=>simp only [Ast.len];rw [show m+(a.len+3) - 1=m+2+a.len by omega,hm.2.2.2];decide
   | ite a b c=>simp only [Ast.len];rw [show m+(a.len+b.len+c.len+3) - 1=m+2+a.len+b.len+c.len by omega,hm.2.2.2.2.2];decide
   | dly b=>simp only [Ast.len];rw [show m+(b.len+4) - 1=m+3+b.len by omega,hm.2.2.2.2];decide
   | bin a b=>simp only [Ast.len];rw [show m+(a.len+b.len+3) - 1=m+2+a.len+b.len by omega,hm.2.2.2.2];decide
  have hlt:∀ (t:Ast) (m:Nat),Sp E.ts t m→lAt E.ts (m - 1)≠kFby→(∀ j∈nms E.ts t m,NmA E V I K j)→lateB E t m=false:=fun t m hm hne hn=>by
   cases t <;> try rfl
   cases hx:lateB E .leaf m with
   | false=>rfl
   | true=>
    have h2:=(late_leaf hx).2
    have hk:=(leaf_kind hF E rfl (i:=m) (dl:=0) hm.1).1 (link_true h2).1
    have:=(hn m (by simp only [nms];rw [if_pos hk];simp)).prm hne
    rw [this] at h2;cases h2
  obtain ⟨x,hx⟩:∃ x,x=wExpr E a (i+2) dl (o+1) s:=⟨_,rfl⟩
  obtain ⟨y,hy⟩:∃ y,y=wExpr E b (i+2+a.len) dl (o+1+a.size) x.1:=⟨_,rfl⟩
  obtain ⟨z,hz⟩:∃ z,z=wExpr E c (i+2+a.len+b.len) dl (o+1+a.size+b.size) y.1:=⟨_,rfl⟩
  have e:wExpr E (.ite a b c) i dl o s=wAdd z.1 ⟨14,(x.2:Nat),(y.2:Nat),(z.2:Nat)⟩:=by simp only [wExpr];rw [← hx,← hy,← hz]
  rw [e] at hp ⊢
  have pz:Pre z.1 F:=(pre_add _ _).trans hp
  have py:Pre y.1 F:=Pre.trans (by rw [hz];exact pre_expr E _ _ _ _ _) pz
  have px:Pre x.1 F:=Pre.trans (by rw [hy];exact pre_expr E _ _ _ _ _) py
  have sx:x.1.cells.length=x.1.later.length:=by have:=(wle_expr E a (i+2) dl (o+1) s sa).same;rw [← hx] at this;omega
  have sy:y.1.cells.length=y.1.later.length:=by have:=(wle_expr E b (i+2+a.len) dl (o+1+a.size) x.1 sb).same;rw [← hy] at this;omega
  have ea:=iha (i+2) dl (o+1) 116 s sa (by omega) wa (fun j hj=>hA j (.inl hj)) (fun j hj=>hO j (.inl hj)) (hlt a _ sa (by rw [show i+2 - 1=i+1 by omega,g2];decide) (fun j hj=>hA j (.inl hj))) hsm (by rw [← hx];exact px) k
  have eb:=ihb (i+2+a.len) dl (o+1+a.size) w x.1 sb (by omega) wb (fun j hj=>hA j (.inr (.inl hj))) (fun j hj=>hO j (.inr (.inl hj))) (hlt b _ sb (hend a (i+2) sa) (fun j hj=>hA j (.inr (.inl hj)))) sx (by rw [← hy];exact py) k
  have ec:=ihc (i+2+a.len+b.len) dl (o+1+a.size+b.size) w y.1 sc (by omega) wc (fun j hj=>hA j (.inr (.inr hj))) (fun j hj=>hO j (.inr (.inr hj))) (hlt c _ sc (hend b (i+2+a.len) sb) (fun j hj=>hA j (.inr (.inr hj)))) sy (by rw [← hz];exact pz) k
  rw [← hx] at ea
  rw [← hy] at eb
  rw [← hz] at ec
  rw [RgK_at hS hp]
  show (if atF (RgK F I K C k) ((x.2:Nat):Int)=0 then atF (RgK F I K C k) ((z.2:Nat):Int) else atF (RgK F I K C k) ((y.2:Nat):Int))=if evT E.ts V a (i+2) k=1 then evT E.ts V b (i+2+a.len) k else evT E.ts V c (i+2+a.len+b.len) k
  rw [ea,eb,ec]
  rcases hbit with ha | ha <;> rw [ha] <;> rfl
 | dly b ihb=>
  intro i dl o w s hs hl hw hA hO hb hsm hp k
  obtain ⟨_,g2,g3,sb,_⟩:=hs
  have hv:=(leaf_value hF (dl:=dl) g2).2
  simp only [wExpr] at hp ⊢
  by_cases hlt:lateB E b (i+3)=true
  ·rw [if_pos hlt] at hp ⊢
   obtain ⟨rfl,h2⟩:=late_leaf hlt
   have hk:=(leaf_kind hF E rfl (i:=i+3) (dl:=0) sb.1).1 (link_true h2).1
   have hAj:=hA (i+3) (by simp only [nms];rw [if_pos hk];simp)
   have hkd:=(link_true h2).2
   have hne:((plAt E.ds (leafB E (i+3) 0).decl:Nat):Int)≠E.pl:=fun e=>by rw [hAj.own hkd e] at h2;cases h2
   unfold wHand at hp ⊢
   rw [name_dl] at hp ⊢
   have hnm:wName E (wAdd (wAdd s ⟨4,0,0,0⟩).1 ⟨0,((leafB E (i+1) dl).value:Nat),0,0⟩).1 (leafB E (i+3) 0)=wAdd (wAdd (wAdd s ⟨4,0,0,0⟩).1 ⟨0,((leafB E (i+1) dl).value:Nat),0,0⟩).1 ⟨2,((wLink E (leafB E (i+3) 0)).1:Nat),0,0⟩:=by
    unfold wName;rw [if_neg hkd,if_neg hne]
   rw [hnm] at hp ⊢
   have p3:=(pre_add _ _).trans hp
   have p2:=(pre_add _ _).trans p3
   have p1:=(pre_add _ _).trans p2
   have e1:=RgK_at (I:=I) (K:=K) hS p1 k
   have e2:=RgK_at (I:=I) (K:=K) hS p2 k
   have e3:=RgK_at (I:=I) (K:=K) hS p3 k
   have n1:(wAdd s ⟨4,0,0,0⟩).2=s.ops.length:=rfl
   have n2:(wAdd (wAdd s ⟨4,0,0,0⟩).1 ⟨0,((leafB E (i+1) dl).value:Nat),0,0⟩).2=s.ops.length+1:=by simp [wAdd]
   rw [n1] at e1
   rw [n2] at e2
   rw [RgK_at hS hp]
   show (if atF (RgK F I K C k) ((s.ops.length:Nat):Int)=0 then atF (RgK F I K C k) _ else atF (RgK F I K C k) ((s.ops.length+1:Nat):Int))=_
   rw [e1,e2,e3]
   show (if b2i (decide ((k:Int)=0))=0 then atF (K k) (((wLink E (leafB E (i+3) 0)).1:Nat):Int) else (((leafB E (i+1) dl).value:Nat):Int))=_
   cases k with
   | zero=>rw [if_neg (by decide),hv];rfl
   | succ k=>
    rw [if_pos (by rw [decide_eq_false (by omega)];rfl),hAj.lat hkd hne h2 k]
    simp only [evT]
    rw [if_pos hk]
  ·rw [if_neg hlt] at hp ⊢
   have h1:(wCell s (leafB E (i+1) dl) ⟨b,i+3,dl+1,o+2⟩).1.ops[s.ops.length]? = some ⟨3,(s.cells.length:Nat),0,0⟩:=by simp [wCell]
   have h2:(wCell s (leafB E (i+1) dl) ⟨b,i+3,dl+1,o+2⟩).1.cells[s.cells.length]? = some (((leafB E (i+1) dl).value:Nat):Int):=by simp [wCell]
   have e:=reg_at (n:=(k:Int)) (cells:=C k) (ins:=I k) (links:=K k) (hp.op h1) (hS.ok _ _ (hp.op h1))
   show atF (RgK F I K C k) ((s.ops.length:Nat):Int)=_
   unfold RgK
   rw [e]
   show atF (C k) ((s.cells.length:Nat):Int)=_
   cases k with
   | zero=>rw [hS.c0 _ _ (hp.cell h2),hv];rfl
   | succ k=>
    have h3:(wCell s (leafB E (i+1) dl) ⟨b,i+3,dl+1,o+2⟩).1.later[s.cells.length]? = some ⟨b,i+3,dl+1,o+2⟩:=by rw [hsm];simp [wCell]
    rw [hS.cS _ _ k (hp.lat h3)];rfl
 | bin a b iha ihb=>
  intro i dl o w s hs hl hw hA hO hb hsm hp k
  obtain ⟨g1,sa,so,sb,_⟩:=hs
  simp only [Ast.len] at hl
  simp only [wrongR] at hw
  obtain ⟨_,hw⟩:=bad_if hw
  obtain ⟨wa,wb⟩:=or_none hw
  simp only [und,nms,List.mem_append] at hA hO
  have hlt:∀ (t:Ast) (m:Nat),Sp E.ts t m→lAt E.ts (m - 1)≠kFby→(∀ j∈nms E.ts t m,NmA E V I K j)→lateB E t m=false:=fun t m hm hne hn=>by
   cases t <;> try rfl
   cases hx:lateB E .leaf m with
   | false=>rfl
   | true=>
    have h2:=(late_leaf hx).2
    have hk:=(leaf_kind hF E rfl (i:=m) (dl:=0) hm.1).1 (link_true h2).1
    have:=(hn m (by simp only [nms];rw [if_pos hk];simp)).prm hne
    rw [this] at h2;cases h2
  obtain ⟨x,hx⟩:∃ x,x=wExpr E a (i+1) dl (o+1) s:=⟨_,rfl⟩
  obtain ⟨y,hy⟩:∃ y,y=wExpr E b (i+2+a.len) dl (o+1+a.size) x.1:=⟨_,rfl⟩
  have e:wExpr E (.bin a b) i dl o s=wAdd y.1 ⟨((opOf (lAt E.ts (i+1+a.len))).getD 0:Nat),(x.2:Nat),(y.2:Nat),0⟩:=by simp only [wExpr];rw [← hx,← hy]
  rw [e] at hp ⊢
  have py:Pre y.1 F:=(pre_add _ _).trans hp
  have px:Pre x.1 F:=Pre.trans (by rw [hy];exact pre_expr E _ _ _ _ _) py
  have sx:x.1.cells.length=x.1.later.length:=by have:=(wle_expr E a (i+1) dl (o+1) s sa).same;rw [← hx] at this;omega
  have ea:=iha (i+1) dl (o+1) _ s sa (by omega) wa (fun j hj=>hA j (.inl hj)) (fun j hj=>hO j (.inl hj)) (hlt a _ sa (by rw [show i+1 - 1=i by omega,g1];decide) (fun j hj=>hA j (.inl hj))) hsm (by rw [← hx];exact px) k
  have eb:=ihb (i+2+a.len) dl (o+1+a.size) _ x.1 sb (by omega) wb (fun j hj=>hA j (.inr hj)) (fun j hj=>hO j (.inr hj)) (hlt b _ sb (by
   rw [show i+2+a.len - 1=i+1+a.len by omega]
   rcases op_some so with h | h | h | h | h | h | h | h <;> rw [h] <;> decide) (fun j hj=>hA j (.inr hj))) sx (by rw [← hy];exact py) k
  rw [← hx] at ea
  rw [← hy] at eb
  rw [RgK_at hS hp]
  obtain ⟨A,hA'⟩:∃ A,A=evT E.ts V a (i+1) k:=⟨_,rfl⟩
  obtain ⟨B,hB'⟩:∃ B,B=evT E.ts V b (i+2+a.len) k:=⟨_,rfl⟩
  have hbits:lAt E.ts (i+1+a.len)=[38]∨lAt E.ts (i+1+a.len)=[124]→Bit A∧Bit B:=fun ho=>by
   have hbo:bothR (lAt E.ts (i+1+a.len))=116:=by unfold bothR;rw [if_pos ho]
   rw [hbo] at wa wb
   rw [hA',hB']
   exact ⟨ev_bit hF hV a _ k sa (by omega) wa,ev_bit hF hV b _ k sb (by omega) wb⟩
  show _=apF (lAt E.ts (i+1+a.len)) (evT E.ts V a (i+1) k) (evT E.ts V b (i+2+a.len) k)
  rw [← hA',← hB']
  rw [← hA'] at ea
  rw [← hB'] at eb
  exact lays_op so ea eb hbits
end
theorem mem_routeTo {ts:List Tk}{L:List Dl}{b:Nat}{x:Dl}{r:Rt}:∀ n,r∈routeTo ts L b x n↔∃ q,q<n∧r∈routeAt ts L b x q:=by
 intro n
 induction n with
 | zero=>simp [routeTo]
 | succ n ih=>
  simp only [routeTo,List.mem_append,ih]
  constructor
  ·rintro (⟨q,h1,h2⟩ | h)
   ·exact ⟨q,by omega,h2⟩
   ·exact ⟨n,by omega,h⟩
  ·rintro ⟨q,h1,h2⟩
   by_cases e:q=n
   ·subst e;exact .inr h2
   ·exact .inl ⟨q,by omega,h2⟩
theorem mem_routesFrom {ts:List Tk}{L:List Dl}{r:Rt}:∀ (l:List Dl) (b:Nat),r∈routesFrom ts L b l↔∃ m x q,l[m]? = some x∧q<4∧r∈routeAt ts L (b+m) x q:=by
 intro l
 induction l with
 | nil=>intro b;simp [routesFrom]
 | cons y l ih=>
  intro b
  simp only [routesFrom,List.mem_append,ih,mem_routeTo]
  constructor
  ·rintro (⟨q,h1,h2⟩ | ⟨m,x,q,h1,h2,h3⟩)
   ·exact ⟨0,y,q,rfl,h1,h2⟩
   ·exact ⟨m+1,x,q,h1,h2,by rw [show b+(m+1)=b+1+m by omega];exact h3⟩
  ·rintro ⟨m,x,q,h1,h2,h3⟩
   cases m with
   | zero=>
    have e:y=x:=by simpa using h1
    subst e
    exact .inl ⟨q,h2,h3⟩
   | succ m=>exact .inr ⟨m,x,q,h1,h2,by rw [show b+1+m=b+(m+1) by omega];exact h3⟩
theorem mem_routes {ts:List Tk}{L:List Dl}{r:Rt}:r∈routesR ts L↔∃ x,(eqL L)[r.src]? = some x∧r.dst<4∧usesR ts L (nameD ts x).data.toList r.dst≠[]∧r.dst≠placeD ts x∧r.late=lateR ts (usesR ts L (nameD ts x).data.toList r.dst):=by
 unfold routesR
 rw [mem_routesFrom]
 constructor
 ·rintro ⟨m,x,q,h1,h2,h3⟩
  unfold routeAt at h3
  split at h3
  ·rename_i hc
   rw [List.mem_singleton,Nat.zero_add] at h3
   subst h3
   exact ⟨x,h1,h2,hc.1,hc.2,rfl⟩
  ·simp at h3
 ·rintro ⟨x,h1,h2,h3,h4,h5⟩
  refine ⟨r.src,x,r.dst,h1,h2,?_⟩
  unfold routeAt
  rw [if_pos ⟨h3,h4⟩,List.mem_singleton,Nat.zero_add,← h5]
theorem wFind_some {lk:List Rt}{num:Nat}{r:Rt} (hr:r∈lk) (hs:r.src=num):∃ m r',wFind lk num=(m,r'.late)∧lk[m]? = some r'∧r'.src=num:=by
 unfold wFind
 cases h:lk.findIdx? (fun r=>r.src == num) with
 | none=>rw [List.findIdx?_eq_none_iff] at h;have:=h r hr;rw [hs] at this;simp at this
 | some m=>
  obtain ⟨h1,h2,_⟩:=List.findIdx?_eq_some_iff_getElem.1 h
  refine ⟨m,lk[m],?_,List.getElem?_eq_getElem h1,by simpa using h2⟩
  show (m,((lk[m]?).map Rt.late).getD false)=_
  rw [List.getElem?_eq_getElem h1];rfl
theorem wFind_none {lk:List Rt}{num:Nat} (h:∀ r∈lk,r.src≠num):wFind lk num=(0,false):=by
 unfold wFind
 rw [List.findIdx?_eq_none_iff.2 (fun r hr=>by simpa using h r hr)]
theorem leafB_name {ts:List Tk} (hF:∀ i,TkF (tkAt ts i)) {ds:List Dc}{pl:Int}{lk:List Rt}{rs:List Nat}{j dl:Nat} (hk:(tkAt ts j).kind=1) :
  (leafB ⟨ts,ds,pl,lk,rs⟩ j dl).kind=2∧(leafB ⟨ts,ds,pl,lk,rs⟩ j dl).decl=findF ds (tkAt ts j).text:=by
 unfold leafB
 show (bindF ds (mkN ts j dl (leafN0 (tkAt ts j)))).kind=2∧(bindF ds (mkN ts j dl (leafN0 (tkAt ts j)))).decl=_
 rw [leafN0_name (hF j) hk]
 unfold bindF
 rw [if_pos (by rfl)]
 exact ⟨rfl,rfl⟩
structure NmD (ts:List Tk) (L:List Dl) (ds:List Dc) (j:Nat) (b:Nat) (z:Dl):Prop where
 zat:L[b]? = some z
 name:(nameD ts z).data.toList=lAt ts j
 find:findF ds (tkAt ts j).text=(b:Int)
 lt:b<ds.length
 kind:kindAt ds (b:Int)=z.kind
 place:z.kind≠0→plAt ds (b:Int)=placeD ts z
 inp:z.kind=0→(inL L)[numAt ds (b:Int)]? = some z
 eqn:z.kind≠0→(eqL L)[numAt ds (b:Int)]? = some z
theorem dc_of {ts:List Tk}{L:List Dl}{ds:List Dc}{ns:List Nd} (hds:ds=declsD ts L 0 0 0) (hB:Both2 ts L ds ns) {b:Nat}{z:Dl} (hz:L[b]? = some z) :
  ∃ d,ds[b]? = some d∧b<ds.length∧kindAt ds (b:Int)=z.kind∧d.kind=z.kind∧d.name=nameD ts z∧(z.kind≠0→plAt ds (b:Int)=placeD ts z∧d.place=placeD ts z)∧(z.kind=0→(inL L)[numAt ds (b:Int)]? = some z)∧(z.kind≠0→(eqL L)[numAt ds (b:Int)]? = some z)∧rootAt ds (b:Int)=d.root:=by
 rcases hB.dx.getOpt b with ⟨_,h2⟩ | ⟨d,x,h1,h2,h3⟩
 ·rw [hz] at h2;cases h2
 ·rw [hz] at h2;cases h2
  have hlt:=(List.getElem?_eq_some_iff.1 h1).1
  have hg:ds.getD b ⟨0,0,⟨#[]⟩,0,0,0,0⟩=d:=by rw [List.getD_eq_getElem?_getD,h1];rfl
  have hn:=decls_num ts L 0 0 0 b d z (by rw [← hds];exact h1) hz
  unfold kindAt plAt numAt rootAt
  rw [Int.toNat_natCast,hg]
  refine ⟨d,h1,hlt,h3.kind,h3.kind,h3.name,fun hk=>⟨h3.place hk,h3.place hk⟩,fun hk=>?_,fun hk=>?_,rfl⟩
  ·obtain ⟨m,hm,hg⟩:=hn.1 hk;rw [hm,Nat.zero_add];exact hg
  ·obtain ⟨m,hm,hg⟩:=hn.2 hk;rw [hm,Nat.zero_add];exact hg
theorem nm_decl {ts:List Tk}{L:List Dl} (H:Right ts L) {ds:List Dc}{ns:List Nd} (hds:ds=declsD ts L 0 0 0) (hB:Both2 ts L ds ns) {j:Nat} (hj:j<ts.length) (hn:isNm ts j=true):∃ b z,NmD ts L ds j b z:=by
 obtain ⟨z,hz,he⟩:=H.decl j hj hn
 obtain ⟨b,hb,rfl⟩:=List.getElem_of_mem hz
 obtain ⟨d,h1,h2,h3,h4,h5,h6,h7,h8,_⟩:=dc_of hds hB (List.getElem?_eq_getElem hb)
 have hf:findF ds (tkAt ts j).text=(b:Int):=by
  have h9:=hB.N.own b h2
  have h10:ds[b]=d:=by have:=(List.getElem?_eq_some_iff.1 h1);exact this.2
  rw [h10,findF_name ds (b:=(tkAt ts j).text) (by rw [h5];exact he)] at h9
  exact h9
 exact ⟨b,L[b],List.getElem?_eq_getElem hb,he,hf,h2,h3,fun hk=>(h6 hk).1,h7,h8⟩
def toPl (pl:Int) (l:List Rt):List Rt:=l.filter fun r=>((r.dst:Nat):Int) == pl
theorem mem_toPl {pl:Int}{l:List Rt}{r:Rt}:r∈toPl pl l↔r∈l∧((r.dst:Nat):Int)=pl:=by
 unfold toPl;rw [List.mem_filter];simp
theorem elem_at {n:Nat}{f:Nat→Int}{i:Nat} (h:i<n):atF ((List.range n).map f) (i:Int)=f i:=by
 rw [atF_nat,List.getD_eq_getElem?_getD,List.getElem?_map,List.getElem?_range h];rfl
theorem nm_ok {ts:List Tk}{L:List Dl} (H:Right ts L) {ds:List Dc}{ns:List Nd} (hds:ds=declsD ts L 0 0 0) (hB:Both2 ts L ds ns) (hp4:∀ x∈eqL L,placeD ts x<4) (ins:List (List Int)) (junk:Int) (pl:Int) (rs:List Nat) {x:Dl} (hx:x∈eqL L) (hpl:((placeD ts x:Nat):Int)=pl) {j:Nat} (hj:j∈nms ts x.t (x.i+5)) :
  NmA ⟨ts,ds,pl,toPl pl (routesR ts L),rs⟩ (valV ts L ins (sol ts L ins)) (nowL L ins) (fun k=>givenR ts L (sol ts L ins) pl k junk) j:=by
 obtain ⟨hs,hl⟩:=H.sp x hx
 have hjl:=nms_lt x.t _ j hj
 have hjn:=nms_nm x.t _ j hj
 have hk1:(tkAt ts j).kind=1:=by unfold isNm at hjn;simpa using hjn
 obtain ⟨b,z,hD⟩:=nm_decl H hds hB (by omega) hjn
 obtain ⟨k2,kd⟩:=leafB_name H.F (ds:=ds) (pl:=pl) (lk:=toPl pl (routesR ts L)) (rs:=rs) (j:=j) (dl:=0) hk1
 rw [hD.find] at kd
 -- uses
 have huse:j∈usesR ts L (nameD ts z).data.toList (placeD ts x):=by
  unfold usesR
  rw [List.mem_flatMap]
  refine ⟨x,hx,?_⟩
  rw [if_pos rfl]
  unfold useOf
  rw [List.mem_filter,List.mem_range'_1]
  exact ⟨⟨by omega,by omega⟩,by rw [hjn,hD.name];simp⟩
 -- the link of another place's equation
 have hoth:z.kind≠0→((placeD ts z:Nat):Int)≠pl→∃ m r,wLink ⟨ts,ds,pl,toPl pl (routesR ts L),rs⟩ (leafB ⟨ts,ds,pl,toPl pl (routesR ts L),rs⟩ j 0)=(m,r.late)∧(toPl pl (routesR ts L))[m]? = some r∧r.src=numAt ds (b:Int)∧r.late=lateR ts (usesR ts L (nameD ts z).data.toList (placeD ts x)):=fun hz hne=>by
  have hmem:(⟨numAt ds (b:Int),placeD ts x,lateR ts (usesR ts L (nameD ts z).data.toList (placeD ts x))⟩:Rt)∈toPl pl (routesR ts L):=by
   rw [mem_toPl,mem_routes]
   refine ⟨⟨z,hD.eqn hz,hp4 x hx,fun e=>by rw [e] at huse;simp at huse,fun e=>hne (by rw [← e];exact hpl),rfl⟩,hpl⟩
  obtain ⟨m,r,h1,h2,h3⟩:=wFind_some hmem (num:=numAt ds (b:Int)) rfl
  refine ⟨m,r,?_,h2,h3,?_⟩
  ·unfold wLink
   rw [if_neg (by rw [k2,kd,hD.kind];simp [hz]),kd]
   exact h1
  ·have hr:=mem_toPl.1 (List.mem_of_getElem? h2)
   obtain ⟨z',g1,_,_,_,g5⟩:=mem_routes.1 hr.1
   rw [h3,hD.eqn hz] at g1
   cases g1
   rw [g5]
   have:r.dst=placeD ts x:=by have:=hr.2;rw [← hpl] at this;omega
   rw [this]
 have hval:∀ (m:Nat) (r:Rt) (k:Nat),(toPl pl (routesR ts L))[m]? = some r→atF (givenR ts L (sol ts L ins) pl k junk) (m:Int)=givF (sol ts L ins) k junk r:=fun m r k hm=>by
  unfold givenR givL
  rw [atF_nat,List.getD_eq_getElem?_getD,List.getElem?_map]
  show (((toPl pl (routesR ts L))[m]?).map _).getD 0=_
  rw [hm];rfl
 refine ⟨?_,?_,?_,?_,?_⟩
 ·intro hk k
  rw [kd,hD.kind] at hk
  have hin:=hD.inp hk
  rw [kd]
  show atF (nowL L ins k) _=valV ts L ins (sol ts L ins) (lAt ts j) k
  rw [← hD.name,val_in H hin]
  unfold nowL
  exact elem_at (List.getElem?_eq_some_iff.1 hin).1
 ·intro hk hne hlt k
  rw [kd,hD.kind] at hk
  rw [kd,hD.place hk] at hne
  obtain ⟨m,r,h1,h2,h3,h4⟩:=hoth hk hne
  rw [h1] at hlt ⊢
  show atF (givenR ts L (sol ts L ins) pl k junk) (m:Int)=valV ts L ins (sol ts L ins) (lAt ts j) k
  rw [hval m r k h2,← hD.name,val_eq H (hD.eqn hk)]
  unfold givF
  rw [if_pos hlt,h3]
 ·intro hk hne hlt k
  rw [kd,hD.kind] at hk
  rw [kd,hD.place hk] at hne
  obtain ⟨m,r,h1,h2,h3,h4⟩:=hoth hk hne
  rw [h1] at hlt ⊢
  show atF (givenR ts L (sol ts L ins) pl (k+1) junk) (m:Int)=valV ts L ins (sol ts L ins) (lAt ts j) k
  rw [hval m r (k+1) h2,← hD.name,val_eq H (hD.eqn hk)]
  unfold givF
  rw [if_neg (by rw [show r.late=true from hlt];decide),if_pos (by omega),h3,Nat.add_sub_cancel]
 ·intro hk he
  rw [kd,hD.kind] at hk
  rw [kd,hD.place hk] at he
  unfold wLink
  rw [if_neg (by rw [k2,kd,hD.kind];simp [hk]),kd]
  rw [wFind_none (fun r hr e=>?_)]
  have hr:=mem_toPl.1 hr
  obtain ⟨z',g1,_,_,g4,_⟩:=mem_routes.1 hr.1
  rw [e,hD.eqn hk] at g1
  cases g1
  have he':((placeD ts z:Nat):Int)=pl:=he
  have:=hr.2
  omega
 ·intro hne
  by_cases hz:z.kind=0
  ·unfold wLink;rw [if_pos (.inr (by rw [kd,hD.kind];exact hz))]
  ·by_cases he:((placeD ts z:Nat):Int)=pl
   ·unfold wLink
    rw [if_neg (by rw [k2,kd,hD.kind];simp [hz]),kd]
    rw [wFind_none (fun r hr e=>?_)]
    have hr:=mem_toPl.1 hr
    obtain ⟨z',g1,_,_,g4,_⟩:=mem_routes.1 hr.1
    rw [e,hD.eqn hz] at g1
    cases g1
    have:=hr.2
    omega
   ·obtain ⟨m,r,h1,h2,h3,h4⟩:=hoth hz he
    rw [h1,h4]
    show lateR ts _=false
    unfold lateR
    rw [List.all_eq_false]
    exact ⟨j,huse,by simpa using hne⟩
def UsedAt (ts:List Tk) (L:List Dl) (pl:Int) (j:Nat):Prop:=∃ x∈eqL L,((placeD ts x:Nat):Int)=pl∧j∈nms ts x.t (x.i+5)
theorem lateB_rs (ts:List Tk) (ds:List Dc) (pl:Int) (lk:List Rt) (rs rs':List Nat) (t:Ast) (i:Nat):lateB ⟨ts,ds,pl,lk,rs⟩ t i=lateB ⟨ts,ds,pl,lk,rs'⟩ t i:=by cases t <;> rfl
structure LtOk (ts:List Tk) (L:List Dl) (ds:List Dc) (ns:List Nd) (pl:Int) (lk:List Rt) (l:Lt):Prop where
 sp:Sp ts l.t l.i
 len:l.i+l.t.len≤ts.length
 wr:∃ w,wrongR ts L l.t l.i w=none
 nm:∀ j∈nms ts l.t l.i,UsedAt ts L pl j
 lt:lateB ⟨ts,ds,pl,lk,[]⟩ l.t l.i=false
 nd:AllAt (fun j n=>ns[j]? = some (bindF ds n)) l.o (flat ts l.t l.i l.dl l.o)
theorem later_name (E:WEnv) (s:WSt) (n:Nd):(wName E s n).1.later=s.later:=by
 unfold wName
 split
 ·rfl
 ·split <;> rfl
theorem later_leaf (E:WEnv) (s:WSt) (n:Nd):(wLeaf E s n).1.later=s.later:=by
 unfold wLeaf
 split
 ·exact later_name E s n
 ·rfl
theorem later_hand (E:WEnv) (s:WSt) (a b:Nd):(wHand E s a b).1.later=s.later:=by
 show (wName E _ b).1.later=_
 rw [later_name];rfl
section
variable {ts:List Tk} {L:List Dl} {ds:List Dc} {ns:List Nd} {pl:Int} {lk:List Rt} {rs:List Nat}
theorem wx_later:∀ (t:Ast) (i dl o w:Nat) (s:WSt),Sp ts t i→i+t.len≤ts.length→wrongR ts L t i w=none→(∀ j∈nms ts t i,UsedAt ts L pl j)→
  AllAt (fun j n=>ns[j]? = some (bindF ds n)) o (flat ts t i dl o)→(∀ l∈s.later,LtOk ts L ds ns pl lk l)→∀ l∈(wExpr ⟨ts,ds,pl,lk,rs⟩ t i dl o s).1.later,LtOk ts L ds ns pl lk l:=by
 intro t
 induction t with
 | leaf=>intro i dl o w s _ _ _ _ _ h l hl;simp only [wExpr] at hl;rw [later_leaf] at hl;exact h l hl
 | neg a iha=>
  intro i dl o w s hs hl hw hn hd h
  simp only [Ast.len] at hl
  simp only [wrongR] at hw
  exact iha (i+2) dl (o+1) 116 s hs.2.2.1 (by omega) (bad_if hw).2 hn hd.2 h
 | ite a b c iha ihb ihc=>
  intro i dl o w s hs hl hw hn hd h
  obtain ⟨_,_,sa,sb,sc,_⟩:=hs
  simp only [Ast.len] at hl
  simp only [wrongR] at hw
  obtain ⟨_,hw⟩:=bad_if hw
  obtain ⟨wa,hw⟩:=or_none hw
  obtain ⟨wb,wc⟩:=or_none hw
  simp only [nms,List.mem_append] at hn
  obtain ⟨_,hd⟩:=hd
  rw [allAt_app,allAt_app,flat_len,flat_len] at hd
  obtain ⟨da,db,dc⟩:=hd
  exact ihc _ dl _ w _ sc (by omega) wc (fun j hj=>hn j (.inr (.inr hj))) dc (ihb _ dl _ w _ sb (by omega) wb (fun j hj=>hn j (.inr (.inl hj))) db (iha _ dl _ 116 s sa (by omega) wa (fun j hj=>hn j (.inl hj)) da h))
 | dly b ihb=>
  intro i dl o w s hs hl hw hn hd h l hm
  obtain ⟨_,_,_,sb,_⟩:=hs
  simp only [Ast.len] at hl
  simp only [wrongR] at hw
  obtain ⟨_,hw⟩:=bad_if hw
  obtain ⟨_,wb⟩:=or_none hw
  simp only [wExpr] at hm
  by_cases hlt:lateB ⟨ts,ds,pl,lk,rs⟩ b (i+3)=true
  ·rw [if_pos hlt,later_hand] at hm;exact h l hm
  ·rw [if_neg hlt] at hm
   simp only [wCell,List.mem_append,List.mem_singleton] at hm
   rcases hm with hm | rfl
   ·exact h l hm
   ·exact ⟨sb,by show i+3+b.len≤_;omega,⟨w,wb⟩,hn,by rw [lateB_rs ts ds pl lk [] rs];simpa using hlt,hd.2.2⟩
 | bin a b iha ihb=>
  intro i dl o w s hs hl hw hn hd h
  obtain ⟨_,sa,_,sb,_⟩:=hs
  simp only [Ast.len] at hl
  simp only [wrongR] at hw
  obtain ⟨_,hw⟩:=bad_if hw
  obtain ⟨wa,wb⟩:=or_none hw
  simp only [nms,List.mem_append] at hn
  obtain ⟨_,hd⟩:=hd
  rw [allAt_app,flat_len] at hd
  obtain ⟨da,db⟩:=hd
  exact ihb _ dl _ _ _ sb (by omega) wb (fun j hj=>hn j (.inr hj)) db (iha _ dl _ _ s sa (by omega) wa (fun j hj=>hn j (.inl hj)) da h)
end
def dlOf (L:List Dl) (t:Nat):Dl:=(L[t]?).getD ⟨0,0,.leaf⟩
theorem dlOf_at {L:List Dl}{t:Nat}{x:Dl} (h:L[t]? = some x):dlOf L t=x:=by unfold dlOf;rw [h];rfl
def wTurn (ts:List Tk) (L:List Dl) (ds:List Dc) (pl:Int) (lk:List Rt) (x:WSt × List Nat) (t:Nat):WSt × Nat:=wExpr ⟨ts,ds,pl,lk,x.2⟩ (dlOf L t).t ((dlOf L t).i+5) 0 (rootAt ds (t:Int)) x.1
def wStep (ts:List Tk) (L:List Dl) (ds:List Dc) (pl:Int) (lk:List Rt) (x:WSt × List Nat) (t:Nat):WSt × List Nat:=
 if ((plAt ds (t:Int):Nat):Int)=pl then ((wTurn ts L ds pl lk x t).1,x.2.set t (wTurn ts L ds pl lk x t).2) else x
def wRoots (ts:List Tk) (L:List Dl) (ds:List Dc) (pl:Int) (lk:List Rt) (T:List Nat) (x:WSt × List Nat):WSt × List Nat:=T.foldl (wStep ts L ds pl lk) x
theorem wRoots_snoc (ts:List Tk) (L:List Dl) (ds:List Dc) (pl:Int) (lk:List Rt) (T:List Nat) (t:Nat) (x:WSt × List Nat):wRoots ts L ds pl lk (T ++ [t]) x=wStep ts L ds pl lk (wRoots ts L ds pl lk T x) t:=by
 unfold wRoots;rw [List.foldl_append];rfl
def lenOf (ts:List Tk) (pl:Int) (x:Dl):Nat:=if x.kind≠0∧((placeD ts x:Nat):Int)=pl then x.t.len else 0
def fbyOf (ts:List Tk) (pl:Int) (x:Dl):Nat:=if x.kind≠0∧((placeD ts x:Nat):Int)=pl then fbyT ts (x.i+5) x.t.len else 0
structure RInv (ts:List Tk) (L:List Dl) (ds:List Dc) (ns:List Nd) (pl:Int) (lk:List Rt) (T1:List Nat) (x:WSt × List Nat):Prop where
 len:x.2.length=ds.length
 sm:x.1.cells.length=x.1.later.length
 top:∀ t∈T1,((plAt ds (t:Int):Nat):Int)=pl→x.2.getD t 0<x.1.ops.length
 ok:∀ nc,x.1.cells.length≤nc→OpsOk nc x.1
 lt:∀ l∈x.1.later,LtOk ts L ds ns pl lk l
 bo:x.1.ops.length+lw x.1.later≤(T1.map fun t=>lenOf ts pl (dlOf L t)).sum
 bc:x.1.cells.length+lf ts x.1.later≤(T1.map fun t=>fbyOf ts pl (dlOf L t)).sum
theorem rsSet (l:List Nat) (t r u:Nat) (ht:t<l.length):(l.set t r).getD u 0=if u=t then r else l.getD u 0:=by
 rw [List.getD_eq_getElem?_getD,List.getD_eq_getElem?_getD,List.getElem?_set]
 by_cases h:t=u
 ·subst h;simp [ht]
 ·rw [if_neg h,if_neg (fun e=>h e.symm)]
structure WKnow (ts:List Tk) (L:List Dl) (ds:List Dc) (ns:List Nd):Prop where
 H:Right ts L
 hT:typesR ts L=none
 hds:ds=declsD ts L 0 0 0
 hns:ns=(nodesD ts L 0).map (bindF ds)
 hB:Both2 ts L ds ns
 p4:∀ x∈eqL L,placeD ts x<4
 eqs:∀ x∈eqL L,lAt ts (x.i+4)=[61]
section
variable {ts:List Tk} {L:List Dl} {ds:List Dc} {ns:List Nd} {pl:Int} (W:WKnow ts L ds ns)
include W
structure EqAt (ts:List Tk) (L:List Dl) (ds:List Dc) (ns:List Nd) (t:Nat) (z:Dl):Prop where
 zat:L[t]? = some z
 kind:z.kind≠0
 mem:z∈eqL L
 lt:t<ds.length
 place:plAt ds (t:Int)=placeD ts z
 num:(eqL L)[numAt ds (t:Int)]? = some z
 sp:Sp ts z.t (z.i+5)
 len:z.i+5+z.t.len≤ts.length
 wr:∃ w,wrongR ts L z.t (z.i+5) w=none
 nd:AllAt (fun j n=>ns[j]? = some (bindF ds n)) (rootAt ds (t:Int)) (flat ts z.t (z.i+5) 0 (rootAt ds (t:Int)))
theorem eq_at {t:Nat}{d:Dc} (hd:ds[t]? = some d) (hk:d.kind≠0):∃ z,EqAt ts L ds ns t z:=by
 rcases W.hB.dx.getOpt t with ⟨h1,_⟩ | ⟨d',z,h1,h2,h3⟩
 ·rw [h1] at hd;cases hd
 ·rw [hd] at h1;cases h1
  have hz:z.kind≠0:=by rw [← h3.kind];exact hk
  obtain ⟨d2,g1,g2,g3,g4,g5,g6,g7,g8,g9⟩:=dc_of W.hds W.hB h2
  rw [hd] at g1;cases g1
  have hm:z∈eqL L:=List.mem_filter.2 ⟨List.mem_of_getElem? h2,by simpa using hz⟩
  obtain ⟨hs,hl⟩:=W.H.sp z hm
  have hw:wrongR ts L z.t (z.i+5) (wB (z.kind == 2))=none:=by
   have:=W.hT
   unfold typesR at this
   rw [List.findSome?_eq_none_iff] at this
   exact this z hm
  have hY:=dy_all ts (bindF ds) (fun _ _=>0) L 0 0 0 [] (fun _=>[]) rfl (fun _=>rfl)
  rw [List.nil_append,← W.hns,← W.hds] at hY
  rcases hY.getOpt t with ⟨h1,_⟩ | ⟨d3,z3,h4,h5,h6⟩
  ·rw [hd] at h1;cases h1
  ·rw [hd] at h4;cases h4
   rw [h2] at h5;cases h5
   exact ⟨z,h2,hz,hm,g2,(g6 hz).1,g8 hz,hs,hl,⟨_,hw⟩,by rw [g9];exact h6.nodes hz⟩
theorem und_hang {t:Nat}{z:Dl} (hz:EqAt ts L ds ns t z) {j:Nat} (hj:j∈und ts z.t (z.i+5)) {b:Nat}{y:Dl} (hD:NmD ts L ds j b y) (hy:y.kind≠0):markAll ds ns 0 ds noM t b=true:=by
 have hE:∀ a x,L[a]? = some x→x.kind≠0→isE L a=true:=fun a x h1 h2=>by unfold isE;rw [h1];simpa using h2
 have e1:=hE t z hz.zat hz.kind
 have e2:=hE b y hD.zat hy
 rw [mark_rel W.H.F W.hB.N W.hB.sp W.hB.decl W.hB.dx t b e1 e2]
 have f1:(eqL L)[cntE L t]? = some z:=by rw [cntE_get L t e1];exact hz.zat
 have f2:(eqL L)[cntE L b]? = some y:=by rw [cntE_get L b e2];exact hD.zat
 refine rel_und W.H.F f1 hz.sp hz.len hj ?_
 obtain ⟨m,hm⟩:=ix_some (p:=nmIs ts (lAt ts j)) (List.mem_of_getElem? f2) (by unfold nmIs;rw [hD.name];simp)
 obtain ⟨y',h1,h2⟩:=eqIx_some (L:=L) hm
 have:=W.H.same h1 f2 (by rw [h2,hD.name])
 rw [← this];exact hm
theorem own_top {t:Nat}{z:Dl}{T1:List Nat}{rs:List Nat}{top:Nat} (hz:EqAt ts L ds ns t z) (hT:∀ b,markAll ds ns 0 ds noM t b=true→b∈T1) (ht:∀ u∈T1,((plAt ds (u:Int):Nat):Int)=pl→rs.getD u 0<top) {lk:List Rt} :
  ∀ j∈und ts z.t (z.i+5),OwnT ⟨ts,ds,pl,lk,rs⟩ top j:=by
 intro j hj hk hp
 have hjn:=und_nms ts _ _ j hj
 have hjl:=nms_lt z.t _ j hjn
 have hnm:=nms_nm z.t _ j hjn
 have hzl:=hz.len
 obtain ⟨b,y,hD⟩:=nm_decl W.H W.hds W.hB (by omega) hnm
 have hk1:(tkAt ts j).kind=1:=by unfold isNm at hnm;simpa using hnm
 obtain ⟨_,kd⟩:=leafB_name W.H.F (ds:=ds) (pl:=pl) (lk:=lk) (rs:=rs) (j:=j) (dl:=0) hk1
 rw [hD.find] at kd
 rw [kd] at hk hp ⊢
 have hk':y.kind≠0:=by rw [← hD.kind];exact hk
 exact ht b (hT b (und_hang W hz hj hD hk')) hp
theorem own_late {j:Nat}{lk:List Rt} (hlk:lk=toPl pl (routesR ts L)) (rs:List Nat) (hu:UsedAt ts L pl j):(wLink ⟨ts,ds,pl,lk,rs⟩ (leafB ⟨ts,ds,pl,lk,rs⟩ j 0)).2=true→((plAt ds (leafB ⟨ts,ds,pl,lk,rs⟩ j 0).decl:Nat):Int)≠pl:=by
 intro hl he
 subst hlk
 obtain ⟨x,hx,hp,hj⟩:=hu
 have hA:=nm_ok W.H W.hds W.hB W.p4 [] 0 pl rs hx hp hj
 rw [hA.own (link_true hl).2 he] at hl
 cases hl
theorem rinv_step {lk:List Rt} (hlk:lk=toPl pl (routesR ts L)) {T1:List Nat}{x:WSt × List Nat} (h:RInv ts L ds ns pl lk T1 x) {t:Nat}{z:Dl} (hz:EqAt ts L ds ns t z) (hT:∀ b,markAll ds ns 0 ds noM t b=true→b∈T1) :
  RInv ts L ds ns pl lk (T1 ++ [t]) (wStep ts L ds pl lk x t):=by
 unfold wStep
 have hdl:=dlOf_at hz.zat
 by_cases hp:((plAt ds (t:Int):Nat):Int)=pl
 ·rw [if_pos hp]
  have hp':((placeD ts z:Nat):Int)=pl:=by rw [← hz.place];exact hp
  have hlen:lenOf ts pl (dlOf L t)=z.t.len:=by unfold lenOf;rw [hdl,if_pos ⟨hz.kind,hp'⟩]
  have hfby:fbyOf ts pl (dlOf L t)=fbyT ts (z.i+5) z.t.len:=by unfold fbyOf;rw [hdl,if_pos ⟨hz.kind,hp'⟩]
  obtain ⟨y,hy⟩:∃ y,y=wTurn ts L ds pl lk x t:=⟨_,rfl⟩
  have hy':y=wExpr ⟨ts,ds,pl,lk,x.2⟩ z.t (z.i+5) 0 (rootAt ds (t:Int)) x.1:=by rw [hy];unfold wTurn;rw [hdl]
  rw [← hy]
  have hle:=wle_expr ⟨ts,ds,pl,lk,x.2⟩ z.t (z.i+5) 0 (rootAt ds (t:Int)) x.1 hz.sp
  have hpre:=pre_expr ⟨ts,ds,pl,lk,x.2⟩ z.t (z.i+5) 0 (rootAt ds (t:Int)) x.1
  rw [← hy'] at hle hpre
  have hused:∀ j∈nms ts z.t (z.i+5),UsedAt ts L pl j:=fun j hj=>⟨z,hz.mem,hp',hj⟩
  have hok:∀ nc,y.1.cells.length≤nc→y.2<y.1.ops.length∧OpsOk nc y.1:=fun nc hnc=>by
   have:=wx_ok (E:=⟨ts,ds,pl,lk,x.2⟩) W.H.F (nc:=nc) z.t (z.i+5) 0 (rootAt ds (t:Int)) x.1 hz.sp (own_top W hz hT h.top) (fun j hj=>own_late W hlk x.2 (hused j hj)) (by rw [← hy'];exact hnc) (h.ok nc (by have:=hpre.len;omega))
   rw [← hy'] at this
   exact this
  obtain ⟨w,hw⟩:=hz.wr
  refine ⟨by rw [List.length_set];exact h.len,by have h1:=hle.same;have h2:=h.sm;show y.1.cells.length=y.1.later.length;omega,?_,fun nc hnc=>(hok nc hnc).2,?_,?_,?_⟩
  ·intro u hu hpu
   show (x.2.set t y.2).getD u 0<y.1.ops.length
   rw [rsSet _ _ _ _ (by rw [h.len];exact hz.lt)]
   by_cases e:u=t
   ·rw [if_pos e];exact (hok _ (Nat.le_refl _)).1
   ·rw [if_neg e]
    have hu':u∈T1:=by
     rcases List.mem_append.1 hu with h1 | h1
     ·exact h1
     ·exact absurd (List.mem_singleton.1 h1) e
    exact Nat.lt_of_lt_of_le (h.top u hu' hpu) hpre.len.1
  ·have:=wx_later (rs:=x.2) (lk:=lk) (ds:=ds) (ns:=ns) (pl:=pl) z.t (z.i+5) 0 (rootAt ds (t:Int)) w x.1 hz.sp hz.len hw hused hz.nd h.lt
   rw [← hy'] at this
   exact this
  ·rw [List.map_append,List.sum_append]
   simp only [List.map_cons,List.map_nil,List.sum_cons,List.sum_nil]
   rw [hlen]
   have:=hle.ops;have:=h.bo
   show y.1.ops.length+lw y.1.later≤_
   omega
  ·rw [List.map_append,List.sum_append]
   simp only [List.map_cons,List.map_nil,List.sum_cons,List.sum_nil]
   rw [hfby]
   have:=h.bc
   show y.1.cells.length+lf ts y.1.later≤_
   have h1:y.1.cells.length+lf ts y.1.later≤x.1.cells.length+lf ts x.1.later+fbyT ts (z.i+5) z.t.len:=hle.cells
   omega
 ·rw [if_neg hp]
  refine ⟨h.len,h.sm,?_,h.ok,h.lt,?_,?_⟩
  ·intro u hu hpu
   rcases List.mem_append.1 hu with h1 | h1
   ·exact h.top u h1 hpu
   ·rw [List.mem_singleton.1 h1] at hpu;exact absurd hpu hp
  ·rw [List.map_append,List.sum_append];have:=h.bo;omega
  ·rw [List.map_append,List.sum_append];have:=h.bc;omega
end
theorem rinv_start (ts:List Tk) (L:List Dl) (ds:List Dc) (ns:List Nd) (pl:Int) (lk:List Rt):RInv ts L ds ns pl lk [] (⟨[],[],[]⟩,List.replicate ds.length 0):=
 ⟨by simp,rfl,fun t ht=>by simp at ht,fun nc _ j o h=>by simp at h,fun l hl=>by simp at hl,by simp [lw],by simp [lf]⟩
def wNext (E:WEnv):Nat→Nat→WSt→List Nat→WSt × List Nat
 | 0,_,s,acc=>(s,acc)
 | f+1,i,s,acc=>
  match s.later[i]? with
  | none=>(s,acc)
  | some l=>wNext E f (i+1) (wExpr E l.t l.i l.dl l.o s).1 (acc ++ [(wExpr E l.t l.i l.dl l.o s).2])
theorem pre_next (E:WEnv):∀ (f i:Nat) (s:WSt) (acc:List Nat),Pre s (wNext E f i s acc).1:=by
 intro f
 induction f with
 | zero=>intro i s acc;exact Pre.refl _
 | succ f ih=>
  intro i s acc
  simp only [wNext]
  cases hl:s.later[i]? with
  | none=>exact Pre.refl _
  | some l=>exact (pre_expr E _ _ _ _ _).trans (ih _ _ _)
theorem late_no {E:WEnv} (hF:∀ i,TkF (tkAt E.ts i)) {V:List UInt8→Nat→Int}{I K:Nat→List Int}{t:Ast}{m:Nat} (hm:Sp E.ts t m) (hne:lAt E.ts (m - 1)≠kFby) (hn:∀ j∈nms E.ts t m,NmA E V I K j):lateB E t m=false:=by
 cases t <;> try rfl
 cases hx:lateB E .leaf m with
 | false=>rfl
 | true=>
  have h2:=(late_leaf hx).2
  have hk:=(leaf_kind hF E rfl (i:=m) (dl:=0) hm.1).1 (link_true h2).1
  have:=(hn m (by simp only [nms];rw [if_pos hk];simp)).prm hne
  rw [this] at h2;cases h2
theorem lw_drop {l:List Lt}{i:Nat}{x:Lt} (h:l[i]? = some x):lw (l.drop i)=x.t.len+lw (l.drop (i+1)):=by
 obtain ⟨h1,h2⟩:=List.getElem?_eq_some_iff.1 h
 rw [List.drop_eq_getElem_cons h1,h2]
 simp [lw]
theorem lf_drop {ts:List Tk}{l:List Lt}{i:Nat}{x:Lt} (h:l[i]? = some x):lf ts (l.drop i)=fbyT ts x.i x.t.len+lf ts (l.drop (i+1)):=by
 obtain ⟨h1,h2⟩:=List.getElem?_eq_some_iff.1 h
 rw [List.drop_eq_getElem_cons h1,h2]
 simp [lf]
theorem lw_take (l:List Lt) (i:Nat):lw l=lw (l.take i)+lw (l.drop i):=by rw [← lw_app,List.take_append_drop]
theorem lf_take (ts:List Tk) (l:List Lt) (i:Nat):lf ts l=lf ts (l.take i)+lf ts (l.drop i):=by rw [← lf_app,List.take_append_drop]
structure NxInv (ts:List Tk) (L:List Dl) (ds:List Dc) (ns:List Nd) (pl:Int) (lk:List Rt) (BO BC:Nat) (i:Nat) (s:WSt) (acc:List Nat):Prop where
 sm:s.cells.length=s.later.length
 ok:∀ nc,s.cells.length≤nc→OpsOk nc s
 lt:∀ l∈s.later,LtOk ts L ds ns pl lk l
 al:acc.length=i
 le:i≤s.later.length
 ar:∀ r∈acc,r<s.ops.length
 bo:s.ops.length+lw (s.later.drop i)≤BO
 bc:s.cells.length+lf ts (s.later.drop i)≤BC
section
variable {ts:List Tk} {L:List Dl} {ds:List Dc} {ns:List Nd} {pl:Int} (W:WKnow ts L ds ns)
include W
theorem own_all {rs:List Nat}{top:Nat}{lk:List Rt} (hT:∀ (a:Nat) (d:Dc),ds[a]? = some d→d.kind≠0→((plAt ds (a:Int):Nat):Int)=pl→rs.getD a 0<top) {j:Nat} (hu:UsedAt ts L pl j):OwnT ⟨ts,ds,pl,lk,rs⟩ top j:=by
 intro hk hp
 obtain ⟨x,hx,_,hj⟩:=hu
 have hjl:=nms_lt x.t _ j hj
 have hnm:=nms_nm x.t _ j hj
 have hxl:=(W.H.sp x hx).2
 obtain ⟨b,y,hD⟩:=nm_decl W.H W.hds W.hB (by omega) hnm
 have hk1:(tkAt ts j).kind=1:=by unfold isNm at hnm;simpa using hnm
 obtain ⟨_,kd⟩:=leafB_name W.H.F (ds:=ds) (pl:=pl) (lk:=lk) (rs:=rs) (j:=j) (dl:=0) hk1
 rw [hD.find] at kd
 rw [kd] at hk hp ⊢
 refine hT b _ (List.getElem?_eq_getElem hD.lt) (fun e=>hk ?_) hp
 unfold kindAt
 rw [Int.toNat_natCast,List.getD_eq_getElem?_getD,List.getElem?_eq_getElem hD.lt]
 exact e
theorem ninv_step {lk:List Rt} (hlk:lk=toPl pl (routesR ts L)) {rs:List Nat}{BO BC i:Nat}{s:WSt}{acc:List Nat} (h:NxInv ts L ds ns pl lk BO BC i s acc)
  (hT:∀ (a:Nat) (d:Dc),ds[a]? = some d→d.kind≠0→((plAt ds (a:Int):Nat):Int)=pl→rs.getD a 0<s.ops.length) {l:Lt} (hl:s.later[i]? = some l) :
  NxInv ts L ds ns pl lk BO BC (i+1) (wExpr ⟨ts,ds,pl,lk,rs⟩ l.t l.i l.dl l.o s).1 (acc ++ [(wExpr ⟨ts,ds,pl,lk,rs⟩ l.t l.i l.dl l.o s).2]):=by
 have hL:=h.lt l (List.mem_of_getElem? hl)
 obtain ⟨y,hy⟩:∃ y,y=wExpr ⟨ts,ds,pl,lk,rs⟩ l.t l.i l.dl l.o s:=⟨_,rfl⟩
 have hle:=wle_expr ⟨ts,ds,pl,lk,rs⟩ l.t l.i l.dl l.o s hL.sp
 have hpre:=pre_expr ⟨ts,ds,pl,lk,rs⟩ l.t l.i l.dl l.o s
 rw [← hy] at hle hpre ⊢
 have hok:∀ nc,y.1.cells.length≤nc→y.2<y.1.ops.length∧OpsOk nc y.1:=fun nc hnc=>by
  have:=wx_ok (E:=⟨ts,ds,pl,lk,rs⟩) W.H.F (nc:=nc) l.t l.i l.dl l.o s hL.sp (fun j hj=>own_all W hT (hL.nm j (und_nms ts _ _ j hj))) (fun j hj=>own_late W hlk rs (hL.nm j hj)) (by rw [← hy];exact hnc) (h.ok nc (by have:=hpre.len;omega))
  rw [← hy] at this
  exact this
 obtain ⟨w,hw⟩:=hL.wr
 have hil:=(List.getElem?_eq_some_iff.1 hl).1
 have hle1:y.1.ops.length+lw y.1.later≤s.ops.length+lw s.later+l.t.len:=hle.ops
 have hle2:y.1.cells.length+lf ts y.1.later≤s.cells.length+lf ts s.later+fbyT ts l.i l.t.len:=hle.cells
 obtain ⟨o,c,m,hm⟩:=hpre
 have hmo:y.1.ops=s.ops ++ o:=by rw [hm]
 have hml:y.1.later=s.later ++ m:=by rw [hm]
 have e1:=lw_drop hl
 have e2:=lf_drop (ts:=ts) hl
 have e3:=lw_take s.later (i+1)
 have e4:=lf_take ts s.later (i+1)
 have e5:lw (s.later.take (i+1))+lw (s.later.drop (i+1))=lw (s.later.take i)+lw (s.later.drop i):=by rw [← lw_take,← lw_take]
 have e6:lf ts (s.later.take (i+1))+lf ts (s.later.drop (i+1))=lf ts (s.later.take i)+lf ts (s.later.drop i):=by rw [← lf_take,← lf_take]
 have hbo:=h.bo
 have hbc:=h.bc
 refine ⟨by have h1:=hle.same;have h2:=h.sm;omega,fun nc hnc=>(hok nc hnc).2,?_,by rw [List.length_append,h.al];rfl,by rw [hml,List.length_append];omega,?_,?_,?_⟩
 ·have:=wx_later (rs:=rs) (lk:=lk) (ds:=ds) (ns:=ns) (pl:=pl) l.t l.i l.dl l.o w s hL.sp hL.len hw hL.nm hL.nd h.lt
  rw [← hy] at this
  exact this
 ·intro r hr
  rcases List.mem_append.1 hr with h1 | h1
  ·have:=h.ar r h1;rw [hmo,List.length_append];omega
  ·rw [List.mem_singleton.1 h1];exact (hok _ (Nat.le_refl _)).1
 ·rw [hml,lw_app] at hle1
  rw [hml,List.drop_append_of_le_length (by omega),lw_app]
  omega
 ·rw [hml,lf_app] at hle2
  rw [hml,List.drop_append_of_le_length (by omega),lf_app]
  omega
theorem next_inv {lk:List Rt} (hlk:lk=toPl pl (routesR ts L)) {rs:List Nat}{BO BC:Nat}:∀ (f i:Nat) (s:WSt) (acc:List Nat),lw (s.later.drop i)<f→NxInv ts L ds ns pl lk BO BC i s acc→
  (∀ (a:Nat) (d:Dc),ds[a]? = some d→d.kind≠0→((plAt ds (a:Int):Nat):Int)=pl→rs.getD a 0<s.ops.length)→
  NxInv ts L ds ns pl lk BO BC (wNext ⟨ts,ds,pl,lk,rs⟩ f i s acc).1.later.length (wNext ⟨ts,ds,pl,lk,rs⟩ f i s acc).1 (wNext ⟨ts,ds,pl,lk,rs⟩ f i s acc).2∧Pre s (wNext ⟨ts,ds,pl,lk,rs⟩ f i s acc).1∧∃ x,(wNext ⟨ts,ds,pl,lk,rs⟩ f i s acc).2=acc ++ x:=by
 intro f
 induction f with
 | zero=>intro i s acc h;omega
 | succ f ih=>
  intro i s acc hf hN hT
  simp only [wNext]
  cases hl:s.later[i]? with
  | none=>
   have hi:s.later.length≤i:=List.getElem?_eq_none_iff.1 hl
   have:i=s.later.length:=by have:=hN.le;omega
   simp only
   rw [← this]
   exact ⟨hN,Pre.refl _,[],by simp⟩
  | some l=>
   simp only
   have h1:=ninv_step W hlk hN hT hl
   have hpre:=pre_expr ⟨ts,ds,pl,lk,rs⟩ l.t l.i l.dl l.o s
   obtain ⟨y,hy⟩:∃ y,y=wExpr ⟨ts,ds,pl,lk,rs⟩ l.t l.i l.dl l.o s:=⟨_,rfl⟩
   have hL:=hN.lt l (List.mem_of_getElem? hl)
   have hle:=wle_expr ⟨ts,ds,pl,lk,rs⟩ l.t l.i l.dl l.o s hL.sp
   have hgrow:∀ r:WSt × Nat,r=wExpr ⟨ts,ds,pl,lk,rs⟩ l.t l.i l.dl l.o s→lw (r.1.later.drop (i+1))<f:=fun r hr=>by
    rw [← hr] at hpre
    have hs:=wx_gain ⟨ts,ds,pl,lk,rs⟩ l.t l.i l.dl l.o s
    rw [← hr] at hs
    obtain ⟨o,c,m,hm⟩:=hpre
    have hml:r.1.later=s.later ++ m:=by rw [hm]
    have hil:=(List.getElem?_eq_some_iff.1 hl).1
    rw [hml,List.drop_append_of_le_length (by omega),lw_app]
    rw [hml,lw_app] at hs
    have:=lw_drop hl
    omega
   have hg:=hgrow _ rfl
   obtain ⟨g1,g2,x,g3⟩:=ih (i+1) _ _ hg h1 (fun a d h2 h3 h4=>Nat.lt_of_lt_of_le (hT a d h2 h3 h4) hpre.len.1)
   exact ⟨g1,hpre.trans g2,_,by rw [g3,List.append_assoc]⟩
end
section
variable {ts:List Tk} {L:List Dl} {ds:List Dc} {ns:List Nd} {pl:Int} (W:WKnow ts L ds ns) {lk:List Rt} (hlk:lk=toPl pl (routesR ts L)) (ins:List (List Int)) (junk:Int) {F:WSt} {C:Nat→List Int}
 (hS:Sem ⟨ts,ds,pl,lk,[]⟩ F (valV ts L ins (sol ts L ins)) C)
abbrev SolV (ts:List Tk) (L:List Dl) (ins:List (List Int)):List UInt8→Nat→Int:=valV ts L ins (sol ts L ins)
abbrev GivK (ts:List Tk) (L:List Dl) (ins:List (List Int)) (pl junk:Int):Nat→List Int:=fun k=>givenR ts L (sol ts L ins) pl k junk
def VInv (ts:List Tk) (L:List Dl) (ds:List Dc) (pl junk:Int) (ins:List (List Int)) (F:WSt) (C:Nat→List Int) (P:Nat→Prop) (rs:List Nat):Prop:=
 ∀ t,P t→((plAt ds (t:Int):Nat):Int)=pl→∀ k,atF (RgK F (nowL L ins) (GivK ts L ins pl junk) C k) ((rs.getD t 0:Nat):Int)=sol ts L ins (numAt ds (t:Int)) k
include W
theorem used_A (hlk:lk=toPl pl (routesR ts L)) (rs:List Nat) {j:Nat} (hu:UsedAt ts L pl j):NmA ⟨ts,ds,pl,lk,rs⟩ (SolV ts L ins) (nowL L ins) (GivK ts L ins pl junk) j:=by
 subst hlk
 obtain ⟨x,hx,hp,hj⟩:=hu
 exact nm_ok W.H W.hds W.hB W.p4 ins junk pl rs hx hp hj
theorem own_val {P:Nat→Prop}{rs:List Nat} (hv:VInv ts L ds pl junk ins F C P rs) {j:Nat} (hjl:j<ts.length) (hnm:isNm ts j=true) (hP:∀ b y,NmD ts L ds j b y→y.kind≠0→P b) :
  OwnW ⟨ts,ds,pl,lk,rs⟩ F (SolV ts L ins) (nowL L ins) (GivK ts L ins pl junk) C j:=by
 intro hk hp k
 obtain ⟨b,y,hD⟩:=nm_decl W.H W.hds W.hB hjl hnm
 have hk1:(tkAt ts j).kind=1:=by unfold isNm at hnm;simpa using hnm
 obtain ⟨_,kd⟩:=leafB_name W.H.F (ds:=ds) (pl:=pl) (lk:=lk) (rs:=rs) (j:=j) (dl:=0) hk1
 rw [hD.find] at kd
 rw [kd] at hk hp ⊢
 have hk':y.kind≠0:=by rw [← hD.kind];exact hk
 rw [Int.toNat_natCast]
 show atF _ ((rs.getD b 0:Nat):Int)=SolV ts L ins (lAt ts j) k
 rw [hv b (hP b y hD hk') hp k]
 unfold SolV
 rw [← hD.name,val_eq W.H (hD.eqn hk')]
theorem bits:∀ k n,k<ts.length→nameT ts L k=true→Bit (SolV ts L ins (lAt ts k) n):=val_bit W.H (fun j n x hx hk=>sol_bit W.H W.hT j n x hx hk)
include hlk hS
theorem vinv_step {T1:List Nat}{x:WSt × List Nat} (h:RInv ts L ds ns pl lk T1 x) (hv:VInv ts L ds pl junk ins F C (·∈T1) x.2) {t:Nat}{z:Dl} (hz:EqAt ts L ds ns t z) (hT:∀ b,markAll ds ns 0 ds noM t b=true→b∈T1) (hpre:Pre (wStep ts L ds pl lk x t).1 F) :
  VInv ts L ds pl junk ins F C (·∈T1 ++ [t]) (wStep ts L ds pl lk x t).2:=by
 have hdl:=dlOf_at hz.zat
 unfold wStep at hpre ⊢
 by_cases hp:((plAt ds (t:Int):Nat):Int)=pl
 ·rw [if_pos hp] at hpre ⊢
  have hp':((placeD ts z:Nat):Int)=pl:=by rw [← hz.place];exact hp
  obtain ⟨y,hy⟩:∃ y,y=wTurn ts L ds pl lk x t:=⟨_,rfl⟩
  have hy':y=wExpr ⟨ts,ds,pl,lk,x.2⟩ z.t (z.i+5) 0 (rootAt ds (t:Int)) x.1:=by rw [hy];unfold wTurn;rw [hdl]
  rw [← hy] at hpre ⊢
  have hA:∀ j∈nms ts z.t (z.i+5),NmA ⟨ts,ds,pl,lk,x.2⟩ (SolV ts L ins) (nowL L ins) (GivK ts L ins pl junk) j:=fun j hj=>used_A W ins junk hlk x.2 ⟨z,hz.mem,hp',hj⟩
  have hOw:∀ j∈und ts z.t (z.i+5),OwnW ⟨ts,ds,pl,lk,x.2⟩ F (SolV ts L ins) (nowL L ins) (GivK ts L ins pl junk) C j:=fun j hj=>by
   have hjn:=und_nms ts _ _ j hj
   have hjl:=nms_lt z.t _ j hjn
   have hzl:=hz.len
   exact own_val W ins junk hv (by omega) (nms_nm z.t _ j hjn) (fun b y hD hk=>hT b (und_hang W hz hj hD hk))
  obtain ⟨w,hw⟩:=hz.wr
  have hlt:lateB ⟨ts,ds,pl,lk,x.2⟩ z.t (z.i+5)=false:=late_no (E:=⟨ts,ds,pl,lk,x.2⟩) W.H.F hz.sp (by show lAt ts (z.i+5 - 1)≠kFby;rw [show z.i+5 - 1=z.i+4 by omega,W.eqs z hz.mem];decide) hA
  have key:=wx_val (E:=⟨ts,ds,pl,lk,x.2⟩) (L:=L) (F:=F) (V:=SolV ts L ins) (I:=nowL L ins) (K:=GivK ts L ins pl junk) (C:=C) W.H.F (bits W ins) ⟨hS.ok,hS.c0,hS.cS⟩ z.t (z.i+5) 0 (rootAt ds (t:Int)) w x.1 hz.sp hz.len hw hA hOw hlt h.sm (by rw [← hy'];exact hpre)
  rw [← hy'] at key
  intro u hu hpu k
  show atF _ (((x.2.set t y.2).getD u 0:Nat):Int)=_
  rw [rsSet _ _ _ _ (by rw [h.len];exact hz.lt)]
  by_cases e:u=t
  ·rw [if_pos e,key k,e]
   obtain ⟨h1,h2⟩:=List.getElem?_eq_some_iff.1 hz.num
   rw [sol_eq W.H.toEqs _ k h1,h2]
  ·rw [if_neg e]
   refine hv u ?_ hpu k
   rcases List.mem_append.1 hu with h1 | h1
   ·exact h1
   ·exact absurd (List.mem_singleton.1 h1) e
 ·rw [if_neg hp] at hpre ⊢
  intro u hu hpu k
  rcases List.mem_append.1 hu with h1 | h1
  ·exact hv u h1 hpu k
  ·rw [List.mem_singleton.1 h1] at hpu;exact absurd hpu hp
theorem next_val {rs:List Nat}{BO BC:Nat} (hv:VInv ts L ds pl junk ins F C (fun a=>∃ d,ds[a]? = some d∧d.kind≠0) rs):∀ (f i:Nat) (s:WSt) (acc:List Nat),NxInv ts L ds ns pl lk BO BC i s acc→
  (∀ (a:Nat) (d:Dc),ds[a]? = some d→d.kind≠0→((plAt ds (a:Int):Nat):Int)=pl→rs.getD a 0<s.ops.length)→
  (∀ (c r:Nat) (l:Lt),acc[c]? = some r→s.later[c]? = some l→∀ k,atF (RgK F (nowL L ins) (GivK ts L ins pl junk) C k) (r:Int)=evT ts (SolV ts L ins) l.t l.i k)→
  Pre (wNext ⟨ts,ds,pl,lk,rs⟩ f i s acc).1 F→
  ∀ (c r:Nat) (l:Lt),(wNext ⟨ts,ds,pl,lk,rs⟩ f i s acc).2[c]? = some r→(wNext ⟨ts,ds,pl,lk,rs⟩ f i s acc).1.later[c]? = some l→∀ k,atF (RgK F (nowL L ins) (GivK ts L ins pl junk) C k) (r:Int)=evT ts (SolV ts L ins) l.t l.i k:=by
 intro f
 induction f with
 | zero=>intro i s acc _ _ h _;exact h
 | succ f ih=>
  intro i s acc hN hT h hp
  simp only [wNext] at hp ⊢
  cases hl:s.later[i]? with
  | none=>simp only [hl] at hp ⊢;exact h
  | some l=>
   simp only [hl] at hp ⊢
   have hL:=hN.lt l (List.mem_of_getElem? hl)
   have hpre:=pre_expr ⟨ts,ds,pl,lk,rs⟩ l.t l.i l.dl l.o s
   have h1:=ninv_step W hlk hN hT hl
   refine ih (i+1) _ _ h1 (fun a d h2 h3 h4=>Nat.lt_of_lt_of_le (hT a d h2 h3 h4) hpre.len.1) ?_ hp
   have hpF:Pre (wExpr ⟨ts,ds,pl,lk,rs⟩ l.t l.i l.dl l.o s).1 F:=Pre.trans (pre_next _ f _ _ _) hp
   have hA:∀ j∈nms ts l.t l.i,NmA ⟨ts,ds,pl,lk,rs⟩ (SolV ts L ins) (nowL L ins) (GivK ts L ins pl junk) j:=fun j hj=>used_A W ins junk hlk rs (hL.nm j hj)
   have hOw:∀ j∈und ts l.t l.i,OwnW ⟨ts,ds,pl,lk,rs⟩ F (SolV ts L ins) (nowL L ins) (GivK ts L ins pl junk) C j:=fun j hj=>by
    have hjn:=und_nms ts _ _ j hj
    have hjl:=nms_lt l.t _ j hjn
    have hzl:=hL.len
    refine own_val W ins junk hv (by omega) (nms_nm l.t _ j hjn) (fun b y hD hk=>⟨_,List.getElem?_eq_getElem hD.lt,fun e=>hk ?_⟩)
    rw [← hD.kind]
    unfold kindAt
    rw [Int.toNat_natCast,List.getD_eq_getElem?_getD,List.getElem?_eq_getElem hD.lt]
    exact e
   obtain ⟨w,hw⟩:=hL.wr
   have key:=wx_val (E:=⟨ts,ds,pl,lk,rs⟩) (L:=L) (F:=F) (V:=SolV ts L ins) (I:=nowL L ins) (K:=GivK ts L ins pl junk) (C:=C) W.H.F (bits W ins) ⟨hS.ok,hS.c0,hS.cS⟩ l.t l.i l.dl l.o w s hL.sp hL.len hw hA hOw (by rw [lateB_rs ts ds pl lk rs []];exact hL.lt) hN.sm hpF
   intro c r m hc hm k
   by_cases hci:c<acc.length
   ·rw [List.getElem?_append_left hci] at hc
    have hcl:c<s.later.length:=by have:=hN.al;have:=hN.le;omega
    have hm':s.later[c]? = some m:=by
     have:=hpre.lat (List.getElem?_eq_getElem hcl)
     rw [this] at hm
     rw [List.getElem?_eq_getElem hcl];exact hm
    exact h c r m hc hm' k
   ·have hc0:c=i:=by
     have h5:=(List.getElem?_eq_some_iff.1 hc).1
     have h6:=hN.al
     rw [List.length_append,List.length_singleton] at h5
     omega
    subst hc0
    rw [List.getElem?_append_right (by omega),hN.al,Nat.sub_self] at hc
    have er:(wExpr ⟨ts,ds,pl,lk,rs⟩ l.t l.i l.dl l.o s).2=r:=by simpa using hc
    rw [hpre.lat hl] at hm
    cases hm
    rw [← er];exact key k
end
def outP (pl:Int):Nat→List Dc→List (Nat × Nat)
 | _,[]=>[]
 | a,d :: r=>if d.kind≠0∧((d.place:Nat):Int)=pl then (a,d.number) :: outP pl (a+1) r else outP pl (a+1) r
theorem outP_mem {pl:Int}:∀ (ds:List Dc) (a:Nat) (p:Nat × Nat),p∈outP pl a ds→∃ d,ds[p.1 - a]? = some d∧a≤p.1∧d.kind≠0∧((d.place:Nat):Int)=pl∧d.number=p.2:=by
 intro ds
 induction ds with
 | nil=>intro a p h;simp [outP] at h
 | cons d r ih=>
  intro a p h
  simp only [outP] at h
  have tl:p∈outP pl (a+1) r→∃ d',(d :: r)[p.1 - a]? = some d'∧a≤p.1∧d'.kind≠0∧((d'.place:Nat):Int)=pl∧d'.number=p.2:=fun h=>by
   obtain ⟨e,h1,h2,h3⟩:=ih _ _ h
   refine ⟨e,?_,by omega,h3⟩
   rw [show p.1 - a=(p.1 - (a+1))+1 by omega,List.getElem?_cons_succ];exact h1
  by_cases hc:d.kind≠0∧((d.place:Nat):Int)=pl
  ·rw [if_pos hc] at h
   rcases List.mem_cons.1 h with rfl | h
   ·exact ⟨d,by simp,Nat.le_refl _,hc.1,hc.2,rfl⟩
   ·exact tl h
  ·rw [if_neg hc] at h;exact tl h
def atFrom (ts:List Tk) (pl:Int):Nat→List Dl→List Nat
 | _,[]=>[]
 | b,x :: r=>if ((placeD ts x:Nat):Int)=pl then b :: atFrom ts pl (b+1) r else atFrom ts pl (b+1) r
theorem atFrom_eq (ts:List Tk) (pl:Int):∀ (l:List Dl) (b:Nat),(List.range' b l.length).filter (fun i=>((l[i - b]?).map fun x=>((placeD ts x:Nat):Int) == pl) == some true)=atFrom ts pl b l:=by
 intro l
 induction l with
 | nil=>intro b;rfl
 | cons x r ih=>
  intro b
  rw [List.length_cons,List.range'_succ,List.filter_cons]
  have e:(List.range' (b+1) r.length).filter (fun i=>(((x :: r)[i - b]?).map fun x=>((placeD ts x:Nat):Int) == pl) == some true)=atFrom ts pl (b+1) r:=by
   rw [← ih (b+1)]
   refine List.filter_congr (fun i hi=>?_)
   have:=(List.mem_range'_1.1 hi).1
   rw [show i - b=(i - (b+1))+1 by omega,List.getElem?_cons_succ]
  rw [e]
  simp only [atFrom,Nat.sub_self,List.getElem?_cons_zero,Option.map_some]
  by_cases hp:((placeD ts x:Nat):Int)=pl
  ·rw [if_pos hp,if_pos (by simp [hp])]
  ·rw [if_neg hp,if_neg (by simp [hp])]
theorem atR_eq (ts:List Tk) (L:List Dl) (pl:Int):atR ts L pl=atFrom ts pl 0 (eqL L):=by
 rw [← atFrom_eq,← List.range_eq_range'];rfl
theorem outP_at (ts:List Tk) (pl:Int):∀ (L:List Dl) (off a b k:Nat),(outP pl k (declsD ts L off a b)).map Prod.snd=atFrom ts pl b (eqL L):=by
 intro L
 induction L with
 | nil=>intro off a b k;rfl
 | cons x r ih=>
  intro off a b k
  simp only [declsD]
  by_cases hx:x.kind=0
  ·rw [if_pos hx]
   have e:eqL (x :: r)=eqL r:=by simp [eqL,hx]
   rw [e,← ih off (a+1) b (k+1)]
   simp only [outP]
   rw [if_neg (show ¬ ((dcIn ts x a).kind≠0∧(((dcIn ts x a).place:Nat):Int)=pl) from fun h=>h.1 rfl)]
  ·rw [if_neg hx]
   have e:eqL (x :: r)=x :: eqL r:=by simp [eqL,hx]
   rw [e]
   simp only [outP,atFrom]
   by_cases hp:((placeD ts x:Nat):Int)=pl
   ·rw [if_pos (show (dcEq ts x b off).kind≠0∧(((dcEq ts x b off).place:Nat):Int)=pl from ⟨hx,hp⟩),if_pos hp,List.map_cons,ih];rfl
   ·rw [if_neg (show ¬ ((dcEq ts x b off).kind≠0∧(((dcEq ts x b off).place:Nat):Int)=pl) from fun h=>hp h.2),if_neg hp,ih]
theorem sum_nodup (f:Nat→Nat):∀ (n:Nat) (T:List Nat),T.Nodup→(∀ t∈T,t<n)→(T.map f).sum≤((List.range n).map f).sum:=by
 intro n
 induction n with
 | zero=>
  intro T _ h
  cases T with
  | nil=>simp
  | cons t r=>have:=h t (by simp);omega
 | succ n ih=>
  intro T hn h
  rw [List.range_succ,List.map_append,List.sum_append]
  simp only [List.map_cons,List.map_nil,List.sum_cons,List.sum_nil]
  by_cases hm:n∈T
  ·have h1:(T.map f).sum=f n+((T.erase n).map f).sum:=by
    have:=(List.perm_cons_erase hm).map f
    have:=this.sum_nat
    rw [this];simp
   have h2:=ih (T.erase n) (hn.erase n) (fun t ht=>by
    have h3:=h t (List.mem_of_mem_erase ht)
    have h4:t≠n:=fun e=>by subst e;exact (List.Nodup.not_mem_erase hn) ht
    omega)
   omega
  ·have:=ih T hn (fun t ht=>by
    have h3:=h t ht
    have:t≠n:=fun e=>hm (by rw [← e];exact ht)
    omega)
   omega
theorem sum_dl (g:Dl→Nat) (L:List Dl):((List.range L.length).map fun t=>g (dlOf L t))=L.map g:=by
 apply List.ext_getElem
 ·simp
 ·intro i h1 h2
  rw [List.getElem_map,List.getElem_map,List.getElem_range,dlOf_at (List.getElem?_eq_getElem (by simpa using h2))]
theorem spell_sum {ts:List Tk}:∀ (L:List Dl) (i:Nat),Spell ts L i→i+(L.map Dl.len).sum<ts.length:=by
 intro L
 induction L with
 | nil=>intro i h;simpa using h.1
 | cons x r ih=>
  intro i h
  obtain ⟨_,_,_,h4⟩:=h
  have:=ih _ h4
  simp only [List.map_cons,List.sum_cons]
  omega
theorem len_sum (ts:List Tk) (pl:Int):∀ (L:List Dl),(L.map (lenOf ts pl)).sum≤(L.map Dl.len).sum:=by
 intro L
 induction L with
 | nil=>simp
 | cons x r ih=>
  simp only [List.map_cons,List.sum_cons]
  have:lenOf ts pl x≤x.len:=by
   unfold lenOf Dl.len
   split
   ·rename_i h;rw [if_neg h.1];omega
   ·omega
  omega
theorem fby_sum (ts:List Tk) (pl:Int):∀ (L:List Dl),(L.map (fbyOf ts pl)).sum=dlyG ts pl (eqL L):=by
 intro L
 induction L with
 | nil=>rfl
 | cons x r ih=>
  simp only [List.map_cons,List.sum_cons]
  rw [ih]
  by_cases hx:x.kind=0
  ·have e:eqL (x :: r)=eqL r:=by simp [eqL,hx]
   rw [e]
   unfold fbyOf;rw [if_neg (fun h=>h.1 hx)];omega
  ·have e:eqL (x :: r)=x :: eqL r:=by simp [eqL,hx]
   rw [e]
   simp only [dlyG]
   unfold fbyOf
   by_cases hp:((placeD ts x:Nat):Int)=pl
   ·rw [if_pos ⟨hx,hp⟩,if_pos hp]
   ·rw [if_neg (fun h=>hp h.2),if_neg hp]
theorem fby_len (ts:List Tk) (pl:Int):∀ (L:List Dl),(L.map (fbyOf ts pl)).sum≤(L.map (lenOf ts pl)).sum:=by
 intro L
 induction L with
 | nil=>simp
 | cons x r ih=>
  simp only [List.map_cons,List.sum_cons]
  have:fbyOf ts pl x≤lenOf ts pl x:=by
   unfold fbyOf lenOf
   split
   ·exact fbyT_le _ _ _
   ·omega
  omega
theorem opsOk_of {nc:Nat}:∀ (l:List OpF) (i:Nat),(∀ (j:Nat) (o:OpF),l[j]? = some o→opOk nc (i+j) o=true)→opsOk nc i l=true:=by
 intro l
 induction l with
 | nil=>intro i _;rfl
 | cons o r ih=>
  intro i h
  simp only [opsOk]
  rw [ih (i+1) (fun j x hj=>by have:=h (j+1) x (by simpa using hj);rwa [show i+1+j=i+(j+1) by omega])]
  have:=h 0 o (by simp)
  rw [Nat.add_zero] at this
  rw [this];rfl
def xZero (ds:List Dc):WSt × List Nat:=(⟨[],[],[]⟩,List.replicate ds.length 0)
def rootsW (ts:List Tk) (L:List Dl) (ds:List Dc) (pl:Int) (lk:List Rt) (T:List Nat):WSt × List Nat:=wRoots ts L ds pl lk T (xZero ds)
def nextW (ts:List Tk) (L:List Dl) (ds:List Dc) (pl:Int) (lk:List Rt) (T:List Nat):WSt × List Nat:=wNext ⟨ts,ds,pl,lk,(rootsW ts L ds pl lk T).2⟩ (ts.length+1) 0 (rootsW ts L ds pl lk T).1 []
def codeW (ts:List Tk) (L:List Dl) (ds:List Dc) (pl:Int) (lk:List Rt) (T:List Nat):CdF:=
 ⟨(nextW ts L ds pl lk T).1.ops,(nextW ts L ds pl lk T).1.cells,(nextW ts L ds pl lk T).2.map (fun (r:Nat)=>(r:Int)),(outP pl 0 ds).map fun p=>(((rootsW ts L ds pl lk T).2.getD p.1 0:Nat):Int)⟩
theorem pre_roots (ts:List Tk) (L:List Dl) (ds:List Dc) (pl:Int) (lk:List Rt):∀ (T:List Nat) (x:WSt × List Nat),Pre x.1 (wRoots ts L ds pl lk T x).1:=by
 intro T
 induction T with
 | nil=>intro x;exact Pre.refl _
 | cons t r ih=>
  intro x
  refine Pre.trans ?_ (ih (wStep ts L ds pl lk x t))
  unfold wStep
  split
  ·exact pre_expr _ _ _ _ _ _
  ·exact Pre.refl _
section
variable {ts:List Tk} {L:List Dl} {ds:List Dc} {ns:List Nd} {pl:Int} (W:WKnow ts L ds ns) {lk:List Rt} (hlk:lk=toPl pl (routesR ts L)) {T:List Nat} (hO:OrdOk ds (markAll ds ns 0 ds noM) T)
include W hlk hO
theorem roots_inv:∀ m,m≤T.length→RInv ts L ds ns pl lk (T.take m) (wRoots ts L ds pl lk (T.take m) (xZero ds)):=by
 intro m
 induction m with
 | zero=>intro _;exact rinv_start ts L ds ns pl lk
 | succ m ih=>
  intro hm
  have hl:m<T.length:=by omega
  rw [List.take_succ_eq_append_getElem hl,wRoots_snoc]
  obtain ⟨d,hd,hk⟩:=hO.eqn T[m] (List.getElem_mem hl)
  obtain ⟨z,hz⟩:=eq_at W hd hk
  exact rinv_step W hlk (ih (by omega)) hz (hO.topo m _ (List.getElem?_eq_getElem hl))
theorem roots_val {F:WSt}{C:Nat→List Int} (ins:List (List Int)) (junk:Int) (hS:Sem ⟨ts,ds,pl,lk,[]⟩ F (valV ts L ins (sol ts L ins)) C) (hp:Pre (rootsW ts L ds pl lk T).1 F) :
  ∀ m,m≤T.length→VInv ts L ds pl junk ins F C (·∈T.take m) (wRoots ts L ds pl lk (T.take m) (xZero ds)).2:=by
 intro m
 induction m with
 | zero=>intro _ t ht;simp at ht
 | succ m ih=>
  intro hm
  have hl:m<T.length:=by omega
  have hpm:Pre (wRoots ts L ds pl lk (T.take (m+1)) (xZero ds)).1 F:=by
   refine Pre.trans ?_ hp
   unfold rootsW
   conv=>rhs;rw [← List.take_append_drop (m+1) T]
   unfold wRoots
   rw [List.foldl_append]
   exact pre_roots ts L ds pl lk _ _
  rw [List.take_succ_eq_append_getElem hl,wRoots_snoc] at hpm ⊢
  obtain ⟨d,hd,hk⟩:=hO.eqn T[m] (List.getElem_mem hl)
  obtain ⟨z,hz⟩:=eq_at W hd hk
  exact vinv_step W hlk ins junk hS (roots_inv W hlk hO m (by omega)) (ih (by omega)) hz (hO.topo m _ (List.getElem?_eq_getElem hl)) hpm
theorem roots_all:RInv ts L ds ns pl lk T (rootsW ts L ds pl lk T):=by
 have:=roots_inv W hlk hO T.length (Nat.le_refl _)
 rwa [List.take_length] at this
theorem next_all (hnd:T.Nodup) (hsp:Spell ts L 0):NxInv ts L ds ns pl lk (L.map (lenOf ts pl)).sum (L.map (fbyOf ts pl)).sum (nextW ts L ds pl lk T).1.later.length (nextW ts L ds pl lk T).1 (nextW ts L ds pl lk T).2∧Pre (rootsW ts L ds pl lk T).1 (nextW ts L ds pl lk T).1:=by
 have hR:=roots_all W hlk hO
 have hlL:L.length=ds.length:=W.hB.dx.len
 have hTl:∀ t∈T,t<L.length:=fun t ht=>by
  obtain ⟨d,hd,_⟩:=hO.eqn t ht
  have:=(List.getElem?_eq_some_iff.1 hd).1
  omega
 have s1:=sum_nodup (fun t=>lenOf ts pl (dlOf L t)) L.length T hnd hTl
 have s2:=sum_nodup (fun t=>fbyOf ts pl (dlOf L t)) L.length T hnd hTl
 rw [sum_dl] at s1 s2
 have s3:=spell_sum L 0 hsp
 have s4:=len_sum ts pl L
 have hbo:=hR.bo
 have hbc:=hR.bc
 obtain ⟨g1,g2,_⟩:=next_inv W hlk (rs:=(rootsW ts L ds pl lk T).2) (BO:=(L.map (lenOf ts pl)).sum) (BC:=(L.map (fbyOf ts pl)).sum) (ts.length+1) 0 (rootsW ts L ds pl lk T).1 [] (by rw [List.drop_zero];omega)
  ⟨hR.sm,hR.ok,hR.lt,rfl,Nat.zero_le _,fun r hr=>by simp at hr,by rw [List.drop_zero];omega,by rw [List.drop_zero];omega⟩
  (fun a d h1 h2 h3=>hR.top a (hO.all a d h1 h2) h3)
 exact ⟨g1,g2⟩
theorem code_ok (hnd:T.Nodup) (hsp:Spell ts L 0) {size:Nat} (hsz:ts.length≤size+1) (h15:size≤1500):StepOk ts L pl (codeW ts L ds pl lk T) size:=by
 obtain ⟨hN,hpre⟩:=next_all W hlk hO hnd hsp
 have hR:=roots_all W hlk hO
 have s3:=spell_sum L 0 hsp
 have s4:=len_sum ts pl L
 have s5:=fby_len ts pl L
 have s6:=fby_sum ts pl L
 have hbo:=hN.bo
 have hbc:=hN.bc
 have hal:=hN.al
 have hsm:=hN.sm
 have hat:atR ts L pl=(outP pl 0 ds).map Prod.snd:=by rw [atR_eq,W.hds,outP_at]
 have hel:(atR ts L pl).length≤(eqL L).length:=by
  unfold atR atG
  have:=List.length_filter_le (fun i=>(((eqL L)[i]?).map fun x=>((placeD ts x:Nat):Int) == pl) == some true) (List.range (eqL L).length)
  simpa using this
 have hol:(outP pl 0 ds).length≤12:=by
  have h1:=W.H.few.1
  rw [hat,List.length_map] at hel
  omega
 have hout:∀ p∈outP pl 0 ds,((plAt ds (p.1:Int):Nat):Int)=pl∧numAt ds (p.1:Int)=p.2∧∃ d,ds[p.1]? = some d∧d.kind≠0:=fun p hp=>by
  obtain ⟨d,h1,_,h3,h4,h5⟩:=outP_mem ds 0 p hp
  rw [Nat.sub_zero] at h1
  have hg:ds.getD p.1 ⟨0,0,⟨#[]⟩,0,0,0,0⟩=d:=by rw [List.getD_eq_getElem?_getD,h1];rfl
  unfold plAt numAt
  rw [Int.toNat_natCast,hg]
  exact ⟨h4,h5,d,h1,h3⟩
 obtain ⟨Fin,hF⟩:∃ Fin,Fin=nextW ts L ds pl lk T:=⟨_,rfl⟩
 rw [← hF] at hN hpre hbo hbc hal hsm
 have hform:formedF (codeW ts L ds pl lk T)=true:=by
  unfold formedF codeW
  rw [← hF]
  simp only [List.length_map,Bool.and_eq_true,decide_eq_true_eq,List.all_eq_true,List.mem_map]
  refine ⟨⟨⟨⟨⟨⟨by omega,by omega⟩,by omega⟩,by omega⟩,opsOk_of _ 0 (fun j o hj=>by rw [Nat.zero_add];exact hN.ok _ (Nat.le_refl _) j o hj)⟩,?_⟩,?_⟩
  ·rintro x ⟨r,hr,rfl⟩;exact regOk_nat (hN.ar r hr)
  ·rintro x ⟨p,hp,rfl⟩
   obtain ⟨h1,_,d,h2,h3⟩:=hout p hp
   exact regOk_nat (Nat.lt_of_lt_of_le (hR.top p.1 (hO.all p.1 d h2 h3) h1) hpre.len.1)
 refine ⟨hform,?_,?_,?_,?_⟩
 ·show (nextW ts L ds pl lk T).1.ops.length≤size
  rw [← hF];omega
 ·show ((outP pl 0 ds).map _).length=_
  rw [hat,List.length_map,List.length_map]
 ·show (nextW ts L ds pl lk T).1.cells.length≤delaysR ts L pl
  rw [← hF]
  unfold delaysR
  omega
 ·intro ins junk k i j hij
  -- the cells ahead of each step
  obtain ⟨C,hC⟩:∃ C:Nat→List Int,C=fun k=>match k with | 0=>Fin.1.cells | k+1=>Fin.1.later.map fun l=>evT ts (valV ts L ins (sol ts L ins)) l.t l.i k:=⟨_,rfl⟩
  have hS:Sem ⟨ts,ds,pl,lk,[]⟩ Fin.1 (valV ts L ins (sol ts L ins)) C:=by
   refine ⟨hN.ok _ (Nat.le_refl _),fun c x hx=>?_,fun c l k hl=>?_⟩
   ·rw [hC,atF_nat,List.getD_eq_getElem?_getD]
    show (Fin.1.cells[c]?).getD 0=x
    rw [hx];rfl
   ·rw [hC,atF_nat,List.getD_eq_getElem?_getD]
    show ((Fin.1.later.map _)[c]?).getD 0=_
    rw [List.getElem?_map,hl];rfl
  have hvT:=roots_val W hlk hO ins junk hS hpre T.length (Nat.le_refl _)
  rw [List.take_length] at hvT
  have hv:VInv ts L ds pl junk ins Fin.1 C (fun a=>∃ d,ds[a]? = some d∧d.kind≠0) (rootsW ts L ds pl lk T).2:=fun t ht hp k=>by
   obtain ⟨d,h1,h2⟩:=ht
   exact hvT t (hO.all t d h1 h2) hp k
  have hnv:=next_val W hlk ins junk hS (BO:=(L.map (lenOf ts pl)).sum) (BC:=(L.map (fbyOf ts pl)).sum) hv (ts.length+1) 0 (rootsW ts L ds pl lk T).1 []
   (by
     have hlL:L.length=ds.length:=W.hB.dx.len
     have hTl:∀ t∈T,t<L.length:=fun t ht=>by
       obtain ⟨d,hd,_⟩:=hO.eqn t ht
       have:=(List.getElem?_eq_some_iff.1 hd).1
       omega
     have s1:=sum_nodup (fun t=>lenOf ts pl (dlOf L t)) L.length T hnd hTl
     have s2:=sum_nodup (fun t=>fbyOf ts pl (dlOf L t)) L.length T hnd hTl
     rw [sum_dl] at s1 s2
     have hbo:=hR.bo
     have hbc:=hR.bc
     exact ⟨hR.sm,hR.ok,hR.lt,rfl,Nat.zero_le _,fun r hr=>by simp at hr,by rw [List.drop_zero];omega,by rw [List.drop_zero];omega⟩)
   (fun a d h1 h2 h3=>hR.top a (hO.all a d h1 h2) h3) (fun c r l h=>by simp at h) (by show Pre (nextW ts L ds pl lk T).1 _;rw [← hF];exact Pre.refl _)
  have hnx:∀ (c r:Nat) (l:Lt),Fin.2[c]? = some r→Fin.1.later[c]? = some l→∀ k,atF (RgK Fin.1 (nowL L ins) (GivK ts L ins pl junk) C k) (r:Int)=evT ts (SolV ts L ins) l.t l.i k:=by
   intro c r l h1 h2
   refine hnv c r l ?_ ?_
   ·show (nextW ts L ds pl lk T).2[c]? = some r
    rw [← hF];exact h1
   ·show (nextW ts L ds pl lk T).1.later[c]? = some l
    rw [← hF];exact h2
  have hcl:∀ k,(C k).length=(codeW ts L ds pl lk T).cells.length:=fun k=>by
   show _=(nextW ts L ds pl lk T).1.cells.length
   rw [← hF,hC]
   cases k with
   | zero=>rfl
   | succ k=>show (Fin.1.later.map _).length=_;rw [List.length_map];omega
  have hexec:∀ k:Nat,execF (codeW ts L ds pl lk T) (k:Int) (C k) (nowL L ins k) (GivK ts L ins pl junk k)=(0,(codeW ts L ds pl lk T).out.map (atF (RgK Fin.1 (nowL L ins) (GivK ts L ins pl junk) C k)),(codeW ts L ds pl lk T).next.map (atF (RgK Fin.1 (nowL L ins) (GivK ts L ins pl junk) C k))):=fun k=>by
   unfold execF
   rw [if_neg (by rw [hform];decide),if_neg (by rw [hcl k];omega)]
   have:(codeW ts L ds pl lk T).ops=Fin.1.ops:=by rw [hF];rfl
   unfold RgK
   rw [this]
  have hcs:∀ k,cellsS (codeW ts L ds pl lk T) (nowL L ins) (fun k=>givenR ts L (sol ts L ins) pl k junk) k=C k:=by
   intro k
   induction k with
   | zero=>show (nextW ts L ds pl lk T).1.cells=_;rw [← hF,hC]
   | succ k ih=>
    show (execF (codeW ts L ds pl lk T) (k:Int) (cellsS (codeW ts L ds pl lk T) (nowL L ins) _ k) (nowL L ins k) _).2.2=_
    rw [ih]
    have:=hexec k
    show (execF (codeW ts L ds pl lk T) (k:Int) (C k) (nowL L ins k) (GivK ts L ins pl junk k)).2.2=_
    rw [this]
    show ((nextW ts L ds pl lk T).2.map (fun (r:Nat)=>(r:Int))).map _=_
    rw [← hF]
    rw [show C (k+1)=Fin.1.later.map fun l=>evT ts (valV ts L ins (sol ts L ins)) l.t l.i k by rw [hC]]
    apply List.ext_getElem?
    intro c
    rw [List.map_map,List.getElem?_map,List.getElem?_map]
    by_cases hc:c<Fin.2.length
    ·rw [List.getElem?_eq_getElem hc,List.getElem?_eq_getElem (by omega)]
     exact congrArg some (hnx c _ _ (List.getElem?_eq_getElem hc) (List.getElem?_eq_getElem (by omega)) k)
    ·rw [List.getElem?_eq_none (by omega),List.getElem?_eq_none (by omega)];rfl
  rw [hcs k]
  have:=hexec k
  show (execF (codeW ts L ds pl lk T) (k:Int) (C k) (nowL L ins k) (GivK ts L ins pl junk k)).2.1[i]? = _
  rw [this]
  show (((outP pl 0 ds).map fun p=>(((rootsW ts L ds pl lk T).2.getD p.1 0:Nat):Int)).map _)[i]? = _
  rw [hat,List.getElem?_map] at hij
  rw [List.map_map,List.getElem?_map]
  cases hp:(outP pl 0 ds)[i]? with
  | none=>rw [hp] at hij;cases hij
  | some p=>
   rw [hp] at hij
   have ej:p.2=j:=by simpa using hij
   obtain ⟨h1,h2,d,h3,h4⟩:=hout p (List.mem_of_getElem? hp)
   have:=hv p.1 ⟨d,h3,h4⟩ h1 k
   rw [h2,ej] at this
   exact congrArg some this
end
end Go.Proofs.YtmndgoapkmhglaaGreat
