import Derived.WalkSmall
import Derived.Test.YtmndgoapkmhglabGreatM00Base
import Derived.Test.YtmndgoapkmhglabGreatM02BoxC
import Derived.Test.YtmndgoapkmhglabGreatM16RefA
import Derived.Test.YtmndgoapkmhglabGreatM17RefD
namespace Go.Proofs.YtmndgoapkmhglabGreat
theorem tk_pos:∀ n k (l:List UInt8),l.length=n→(∀ t∈tk k l,k≤t.pos∧t.pos<k+l.length)∧(tk k l).Pairwise (fun a b=>a.pos<b.pos):=by
 intro n
 induction n using Nat.strongRecOn with
 | _ n ih=>
  intro k l hn
  cases l with
  | nil=>rw [tk_nil];exact ⟨fun t ht=>by simp at ht,List.Pairwise.nil⟩
  | cons c r=>
   simp only [List.length_cons] at hn
   by_cases h0:cls c.toNat=0
   ·rw [tk_blank h0]
    obtain ⟨h1,h2⟩:=ih r.length (by omega) (k+1) r rfl
    exact ⟨fun t ht=>by have:=h1 t ht;simp only [List.length_cons];omega,h2⟩
   ·by_cases h12:cls c.toNat=1∨cls c.toNat=2
    ·rw [tk_word h12]
     have hl:=take_drop_len (W (cls c.toNat)) r
     obtain ⟨h1,h2⟩:=ih _ (by omega) (k+1+(r.takeWhile (W (cls c.toNat))).length) (r.dropWhile (W (cls c.toNat))) rfl
     refine ⟨fun t ht=>?_,List.Pairwise.cons (fun t ht=>?_) h2⟩
     ·simp only [List.length_cons]
      rcases List.mem_cons.1 ht with rfl | ht
      ·show k≤k∧k<_;omega
      ·have:=h1 t ht;omega
     ·have:=h1 t ht;show k<t.pos;omega
    ·rw [tk_one (by omega)]
     obtain ⟨h1,h2⟩:=ih r.length (by omega) (k+1) r rfl
     refine ⟨fun t ht=>?_,List.Pairwise.cons (fun t ht=>?_) h2⟩
     ·simp only [List.length_cons]
      rcases List.mem_cons.1 ht with rfl | ht
      ·show k≤k∧k<_;omega
      ·have:=h1 t ht;omega
     ·have:=h1 t ht;show k<t.pos;omega
theorem toks_pos (s:ByteArray):PosLt (toks s):=by
 obtain ⟨h1,h2⟩:=tk_pos _ 0 s.data.toList rfl
 have hp:(toks s).Pairwise (fun a b=>a.pos<b.pos):=by
  rw [toks_list,List.pairwise_append]
  refine ⟨h2,List.pairwise_singleton _ _,fun a ha b hb=>?_⟩
  rw [List.mem_singleton] at hb
  subst hb
  have:=h1 a ha
  show a.pos<s.size
  rw [size_list];omega
 intro i j hij hj
 have:=(List.pairwise_iff_getElem.1 hp) i j (by omega) hj hij
 unfold tkAt
 rw [List.getD_eq_getElem?_getD,List.getD_eq_getElem?_getD,List.getElem?_eq_getElem hj,List.getElem?_eq_getElem (show i<(toks s).length by omega)]
 exact this
theorem toks_end (s:ByteArray) (i:Nat) (h:(tkAt (toks s) i).kind=0):(toks s).length≤i+1:=by
 by_cases hi:i<(tk 0 s.data.toList).length
 ·exfalso
  rw [toks_list,tkAt_left hi] at h
  exact (tk_kind _ _ _ rfl _ (tkAt_mem hi)).1 h
 ·rw [toks_list];simp;omega
theorem badName_own {all:List Dc}{ns:List Nd}:∀ (l:List Dc) (i:Nat),badNameF all ns i l=none→∀ j (hj:j<l.length),findF all (l[j]'hj).name=((i+j:Nat):Int):=by
 intro l
 induction l with
 | nil=>intro i _ j hj;simp at hj
 | cons d l ih=>
  intro i h j hj
  unfold badNameF at h
  split at h
  ·cases h
  ·rename_i hd
   have hd':findF all d.name=(i:Int):=Classical.byContradiction hd
   split at h
   ·cases h
   ·cases j with
    | zero=>exact hd'
    | succ j=>
     have:=ih (i+1) h j (by simpa using hj)
     rw [List.getElem_cons_succ,this]
     congr 1;omega
theorem dx_two {ts:List Tk}{f:Nd→Nd}{ns:List Nd}:∀ {l:List Dc}{m:List Dl},All2 (DX ts f ns) l m→l.map (fun d=>(d.name,d.kind))=m.map fun x=>(nameD ts x,x.kind):=by
 intro l
 induction l with
 | nil=>intro m h;cases m with
  | nil=>rfl
  | cons x m=>exact h.elim
 | cons d l ih=>intro m h;cases m with
  | nil=>exact h.elim
  | cons x m=>rw [List.map_cons,List.map_cons,h.1.name,h.1.kind,ih h.2]
theorem declsD_num (ts:List Tk):∀ (L:List Dl) (off a b k:Nat) (d:Dc) (x:Dl),(declsD ts L off a b)[k]? = some d→L[k]? = some x→x.kind≠0→d.number=b+cntE L k:=by
 intro L
 induction L with
 | nil=>intro off a b k d x h;simp [declsD] at h
 | cons z r ih=>
  intro off a b k d x h1 h2 hk
  simp only [declsD] at h1
  cases k with
  | zero=>
   rw [List.getElem?_cons_zero] at h2
   cases h2
   rw [if_neg hk,List.getElem?_cons_zero] at h1
   cases h1
   simp [cntE,eqL,dcEq]
  | succ k=>
   rw [List.getElem?_cons_succ] at h2
   by_cases hz:z.kind=0
   ·rw [if_pos hz,List.getElem?_cons_succ] at h1
    rw [ih _ _ _ k d x h1 h2 hk]
    simp [cntE,eqL,hz]
   ·rw [if_neg hz,List.getElem?_cons_succ] at h1
    rw [ih _ _ _ k d x h1 h2 hk]
    simp [cntE,eqL,hz];omega
def readR (ts:List Tk) (L:List Dl):Nat × Nat:=
 match manyR ts L with
 | some a=>(3,a)
 | none=>match namesR ts L with
  | some a=>(4,a)
  | none=>match typesR ts L with
   | some a=>(5,a)
   | none=>match cycR ts L with
    | some a=>(6,a)
    | none=>match lpR ts L with
     | some a=>(7,a)
     | none=>(0,0)
theorem meaning_ref {ts:List Tk} (hF:∀ i,TkF (tkAt ts i)) (hP:PosLt ts) (hE:∀ i,(tkAt ts i).kind=0→ts.length≤i+1) (L:List Dl) (hL:Spell ts L 0) (ht:0<ts.length) :
  meaningF (declsD ts L 0 0 0) ((nodesD ts L 0).map (bindF (declsD ts L 0 0 0)))=readR ts L:=by
 obtain ⟨ds,hds⟩:∃ ds,ds=declsD ts L 0 0 0:=⟨_,rfl⟩
 obtain ⟨ns,hns⟩:∃ ns,ns=(nodesD ts L 0).map (bindF ds):=⟨_,rfl⟩
 rw [← hds,← hns]
 have hmany:tooManyF ds=manyR ts L:=by rw [hds];exact many_eq hP L 0 0 0 0 hL (by omega) (by omega)
 have hnm:ds.map Dc.name=L.map (nameD ts):=by rw [hds];exact declsD_names ts L 0 0 0
 have hnames:badNameF ds ns 0 ds=namesR ts L:=by
  have:=names_eq hF hE L hL ds hnm L [] 0 0 0 0 [] [] rfl hL (by omega) (by rw [List.nil_append];exact hds) rfl rfl
  rw [List.nil_append,← hns,← hds] at this
  exact this
 have hdx:All2 (DX ts (bindF ds) ns) ds L:=by
  have:=dx_all ts (bindF ds) L 0 0 0 [] rfl
  rw [List.nil_append,← hns,← hds] at this
  exact this
 unfold meaningF readR
 rw [hmany,hnames]
 cases manyR ts L with
 | some a=>rfl
 | none=>
  simp only
  cases hn:namesR ts L with
  | some a=>rfl
  | none=>
   simp only
   rw [hn] at hnames
   have hN:NamesOk ts L ds:=⟨fun j hj=>by have:=badName_own ds 0 hnames j hj;rw [this,Nat.zero_add],dx_two hdx⟩
   have hsp:∀ x∈L,x.kind≠0→Sp ts x.t (x.i+5)∧x.i+5+x.t.len≤ts.length:=by
    intro x hx hk
    obtain ⟨_,h2,h3⟩:=spell_mem _ _ hL x hx
    have hlen:x.len=x.t.len+6:=by unfold Dl.len;rw [if_neg hk]
    refine ⟨?_,by omega⟩
    rcases h3 with ⟨h,_⟩ | ⟨_,_,_,_,_,h,_⟩
    ·exact absurd h hk
    ·exact h
   have hd:∀ x∈L,x.kind≠0→∀ y∈nmD ts x.t (x.i+5) false,0≤findF ds (tkAt ts y.1).text:=by
    intro x hx hk y hy
    obtain ⟨k,hk2,rfl⟩:=List.getElem_of_mem hx
    rcases hdx.getOpt k with ⟨_,h2⟩ | ⟨d,z,h1,h2,h3⟩
    ·rw [List.getElem?_eq_getElem hk2] at h2;cases h2
    ·rw [List.getElem?_eq_getElem hk2] at h2
     cases h2
     have hnone:=badName_none ds 0 hnames d (List.mem_of_getElem? h1)
     obtain ⟨o,ho⟩:=h3.some hk
     have hmem:bindF ds (nmNd ts y)∈seg ns d.root d.fin:=by
      rw [ho]
      have:bindF ds (nmNd ts y)∈(((flat ts (L[k]'hk2).t ((L[k]'hk2).i+5) 0 o).map (bindF ds)).filter fun n=>n.kind == 2):=by
       rw [bind_filter,flat_names hF _ _ _ _ (hsp _ hx hk).1]
       exact List.mem_map.2 ⟨_,List.mem_map.2 ⟨y,hy,rfl⟩,rfl⟩
      exact (List.mem_filter.1 this).1
     have:=badNode_none _ hnone _ hmem (by rw [bind_nm];rfl)
     rw [bind_nm] at this
     exact this
   have htot:(nodesD ts L 0).length=totN L:=nodesD_len ts L 0
   have hnl:ns.length=totN L:=by rw [hns,List.length_map,htot]
   have htypes:badTypeF ds 0 ns (roots ds (List.replicate ns.length false))=typesR ts L:=by
    have hT:TrOk L 0 (roots ds (List.replicate ns.length false)):=by
     rw [hds]
     refine roots_ok ts L 0 0 0 _ (fun j _=>?_) (by simp [hnl])
     rw [List.getD_eq_getElem?_getD,List.getElem?_replicate]
     split <;> rfl
    have:=types_eq hF hN L 0 0 (roots ds (List.replicate ns.length false)) hL hT (by rw [roots_len];simp [hnl]) hd
    rw [← hns] at this
    exact this
   rw [htypes]
   cases typesR ts L with
   | some a=>rfl
   | none=>
    simp only
    rw [cycle_eq hF hN hsp hd hdx]
    cases cycR ts L with
    | some a=>rfl
    | none=>
     simp only
     rw [loop_eq hF hN hsp hd hdx (fun a d x h1 h2 hk=>by rw [hds] at h1;have:=declsD_num ts L 0 0 0 a d x h1 h2 hk;rw [this,Nat.zero_add])]
     cases lpR ts L <;> rfl
theorem text_read (s:ByteArray) (hs:s.size≤1500) :
  (∃ k,k<(toks s).length∧textF s=(2,(tkAt (toks s) k).pos)∧∃ n,Ans (toks s) n [80] 0 0 ((tkAt (toks s) k).pos:Int))∨
  (∃ L,Spell (toks s) L 0∧(∃ n,Ans (toks s) n [80] 0 0 (-1))∧textF s=readR (toks s) L∧∃ p,parseF s = .ok p∧p.decls=declsD (toks s) L 0 0 0∧p.nodes=nodesD (toks s) L 0):=by
 obtain ⟨hok,hbad⟩:=parseA s hs
 unfold textF
 rw [if_neg (by omega)]
 cases hp:parseF s with
 | error k=>
  obtain ⟨h1,h2⟩:=hbad k hp
  exact .inl ⟨k,h1,rfl,h2⟩
 | ok p=>
  obtain ⟨L,h1,h2,h3,h4⟩:=hok p hp
  refine .inr ⟨L,h1,h4,?_,p,rfl,h2,h3⟩
  show meaningF p.decls (boundN p)=_
  unfold boundN
  rw [h2,h3]
  exact meaning_ref (toks_F s) (toks_pos s) (toks_end s) L h1 (toks_ok s hs).pos
structure RGood (s:ByteArray) (L:List Dl):Prop where
 many:manyR (toks s) L=none
 names:namesR (toks s) L=none
 types:typesR (toks s) L=none
 cyc:cycR (toks s) L=none
 lp:lpR (toks s) L=none
 sp:Spell (toks s) L 0
 parse:∃ p,parseF s = .ok p∧p.decls=declsD (toks s) L 0 0 0∧p.nodes=nodesD (toks s) L 0
theorem spell_lt {ts:List Tk}:∀ (L:List Dl) (i:Nat),Spell ts L i→L.Pairwise (fun x y=>x.i+x.len≤y.i):=by
 intro L
 induction L with
 | nil=>intro i _;exact List.Pairwise.nil
 | cons x r ih=>
  intro i h
  obtain ⟨_,h2,_,_,_,h6⟩:=spell_mid (L2:=r) [] i h
  exact List.Pairwise.cons h2 (ih _ h6)
theorem warsh_up (M:Mx) (i j:Nat) (h:M i j=true):∀ n,warsh M n i j=true:=by
 intro n
 induction n with
 | zero=>exact h
 | succ n ih=>show phase (warsh M n) n i j=true;unfold phase;rw [ih];rfl
theorem warsh_trans (M:Mx):∀ n k i j,k<n→warsh M n i k=true→warsh M n k j=true→warsh M n i j=true:=by
 intro n
 induction n with
 | zero=>intro k i j h;omega
 | succ n ih=>
  intro k i j hk h1 h2
  change phase (warsh M n) n i k=true at h1
  change phase (warsh M n) n k j=true at h2
  show phase (warsh M n) n i j=true
  unfold phase at *
  simp only [Bool.or_eq_true,Bool.and_eq_true] at *
  by_cases e:k=n
  ·subst e
   have a1:warsh M k i k=true:=h1.elim id And.left
   have a2:warsh M k k j=true:=h2.elim id And.right
   exact .inr ⟨a1,a2⟩
  ·have hk':k<n:=by omega
   rcases h1 with a | ⟨a1,a2⟩ <;> rcases h2 with b | ⟨b1,b2⟩
   ·exact .inl (ih k i j hk' a b)
   ·exact .inr ⟨ih k i n hk' a b1,b2⟩
   ·exact .inr ⟨a1,ih k n j hk' a2 b⟩
   ·exact .inr ⟨a1,b2⟩
theorem filter_lt {p q:Nat→Bool}:∀ (l:List Nat),(∀ x∈l,p x=true→q x=true)→(∃ x∈l,q x=true∧p x=false)→(l.filter p).length<(l.filter q).length:=by
 have le:∀ (l:List Nat),(∀ x∈l,p x=true→q x=true)→(l.filter p).length≤(l.filter q).length:=by
  intro l
  induction l with
  | nil=>intro _;exact Nat.le_refl _
  | cons a r ih=>
   intro h
   have ih':=ih fun x hx=>h x (List.mem_cons_of_mem _ hx)
   have ha:=h a (by simp)
   simp only [List.filter_cons]
   cases hp:p a <;> cases hq:q a
   ·simpa using ih'
   ·simp;omega
   ·rw [ha hp] at hq;cases hq
   ·simp;omega
 intro l
 induction l with
 | nil=>rintro _ ⟨x,hx,_⟩;simp at hx
 | cons a r ih=>
  rintro h ⟨x,hx,hqx,hpx⟩
  have h':=fun x hx=>h x (List.mem_cons_of_mem a hx)
  have ha:=h a (by simp)
  have hle:=le r h'
  simp only [List.filter_cons]
  rcases List.mem_cons.1 hx with rfl | hx
  ·rw [hqx,hpx];simp;omega
  ·have:=ih h' ⟨x,hx,hqx,hpx⟩
   cases hp:p a <;> cases hq:q a
   ·simpa using this
   ·simp;omega
   ·rw [ha hp] at hq;cases hq
   ·simp;omega
def rankM (M:Mx) (m i:Nat):Nat:=((List.range m).filter (warsh M m i)).length
theorem rank_lt {M:Mx}{m i:Nat} (hc:warsh M m i i=false) (hi:i<m):rankM M m i<m:=by
 have h:=filter_lt (p:=warsh M m i) (q:=fun _=>true) (List.range m) (fun _ _ _=>rfl) ⟨i,by simpa using hi,rfl,hc⟩
 have e:((List.range m).filter fun _=>true).length=m:=by rw [List.filter_eq_self.2 (fun _ _=>rfl),List.length_range]
 unfold rankM
 omega
theorem rank_less {M:Mx}{m i j:Nat} (hj:j<m) (hc:warsh M m j j=false) (h:M i j=true):rankM M m j<rankM M m i:=by
 have hij:=warsh_up M i j h m
 exact filter_lt (List.range m) (fun x _ hx=>warsh_trans M m j i x hj hij hx) ⟨j,by simpa using hj,hij,hc⟩
theorem firstC_none {ts:List Tk}{W:Mx}:∀ (l:List Dl) (i:Nat),firstC ts W i l=none→∀ k,k<l.length→W (i+k) (i+k)=false:=by
 intro l
 induction l with
 | nil=>intro i _ k hk;simp at hk
 | cons x r ih=>
  intro i h k hk
  unfold firstC at h
  cases hw:W i i with
  | true=>rw [if_pos hw] at h;cases h
  | false=>
   rw [if_neg (by rw [hw];decide)] at h
   cases k with
   | zero=>exact hw
   | succ k=>have:=ih (i+1) h k (by simpa using hk);rwa [show i+1+k=i+(k+1) by omega] at this
def rk (ts:List Tk) (L:List Dl) (i:Nat):Nat:=rankM (relR ts L) (eqL L).length i
theorem rk_lt {ts:List Tk}{L:List Dl} (h:cycR ts L=none) {i:Nat} (hi:i<(eqL L).length):rk ts L i<(eqL L).length:=
 rank_lt (by have:=firstC_none _ _ h i hi;rwa [Nat.zero_add] at this) hi
theorem rk_less {ts:List Tk}{L:List Dl} (h:cycR ts L=none) {i j:Nat} (hj:j<(eqL L).length) (hr:relR ts L i j=true):rk ts L j<rk ts L i:=
 rank_less hj (by have:=firstC_none _ _ h j hj;rwa [Nat.zero_add] at this) hr
def w64 (x:Int):Int:=Go.RowKit.wrap64 x
def b2i (b:Bool):Int:=if b then 1 else 0
def apF (o:List UInt8) (a b:Int):Int:=
 if o=[43] then w64 (a+b) else if o=[45] then w64 (a - b) else if o=[42] then w64 (a * b)
 else if o=[47] then (if b=0 then 0 else w64 (a.tdiv b)) else if o=[60] then b2i (decide (a<b)) else if o=[61] then b2i (decide (a=b))
 else if o=[38] then b2i (decide (a=1) && decide (b=1)) else b2i (decide (a=1) || decide (b=1))
def litV (t:Tk):Int:=if t.kind=3 then (valOf t.l:Int) else b2i (decide (t.l=kTrue))
def evT (ts:List Tk) (V:List UInt8→Nat→Int):Ast→Nat→Nat→Int
 | .leaf,i,n=>if (tkAt ts i).kind=1 then V (lAt ts i) n else litV (tkAt ts i)
 | .neg a,i,n=>w64 (1 - evT ts V a (i+2) n)
 | .ite a b c,i,n=>if evT ts V a (i+2) n=1 then evT ts V b (i+2+a.len) n else evT ts V c (i+2+a.len+b.len) n
 | .dly _,i,0=>litV (tkAt ts (i+1))
 | .dly b,i,n+1=>evT ts V b (i+3) n
 | .bin a b,i,n=>apF (lAt ts (i+1+a.len)) (evT ts V a (i+1) n) (evT ts V b (i+2+a.len) n)
def und (ts:List Tk):Ast→Nat→List Nat
 | .leaf,i=>if (tkAt ts i).kind=1 then [i] else []
 | .neg a,i=>und ts a (i+2)
 | .ite a b c,i=>und ts a (i+2) ++ (und ts b (i+2+a.len) ++ und ts c (i+2+a.len+b.len))
 | .dly _,_=>[]
 | .bin a b,i=>und ts a (i+1) ++ und ts b (i+2+a.len)
def nms (ts:List Tk):Ast→Nat→List Nat
 | .leaf,i=>if (tkAt ts i).kind=1 then [i] else []
 | .neg a,i=>nms ts a (i+2)
 | .ite a b c,i=>nms ts a (i+2) ++ (nms ts b (i+2+a.len) ++ nms ts c (i+2+a.len+b.len))
 | .dly b,i=>nms ts b (i+3)
 | .bin a b,i=>nms ts a (i+1) ++ nms ts b (i+2+a.len)
theorem und_nms (ts:List Tk):∀ (t:Ast) (i:Nat),∀ j∈und ts t i,j∈nms ts t i:=by
 intro t
 induction t with
 | leaf=>intro i j h;exact h
 | neg a iha=>intro i j h;exact iha _ j h
 | ite a b c iha ihb ihc=>
  intro i j h
  simp only [und,nms,List.mem_append] at *
  exact h.imp (iha _ j) (Or.imp (ihb _ j) (ihc _ j))
 | dly b ihb=>intro i j h;simp [und] at h
 | bin a b iha ihb=>
  intro i j h
  simp only [und,nms,List.mem_append] at *
  exact h.imp (iha _ j) (ihb _ j)
theorem nms_nmD (ts:List Tk):∀ (t:Ast) (i:Nat) (dl:Bool),nms ts t i=(nmD ts t i dl).map Prod.fst:=by
 intro t
 induction t with
 | leaf=>intro i dl;simp only [nms,nmD];split <;> rfl
 | neg a iha=>intro i dl;exact iha _ dl
 | ite a b c iha ihb ihc=>intro i dl;simp only [nms,nmD,List.map_append];rw [iha _ dl,ihb _ dl,ihc _ dl]
 | dly b ihb=>intro i dl;exact ihb _ true
 | bin a b iha ihb=>intro i dl;simp only [nms,nmD,List.map_append];rw [iha _ dl,ihb _ dl]
theorem und_nmD (ts:List Tk):∀ (t:Ast) (i:Nat),∀ j∈und ts t i,(j,false)∈nmD ts t i false:=by
 intro t
 induction t with
 | leaf=>intro i j h;simp only [und,nmD] at *;split at h <;> simp_all
 | neg a iha=>intro i j h;exact iha _ j h
 | ite a b c iha ihb ihc=>
  intro i j h
  simp only [und,nmD,List.mem_append] at *
  exact h.imp (iha _ j) (Or.imp (ihb _ j) (ihc _ j))
 | dly b ihb=>intro i j h;simp [und] at h
 | bin a b iha ihb=>
  intro i j h
  simp only [und,nmD,List.mem_append] at *
  exact h.imp (iha _ j) (ihb _ j)
theorem evT_congr (ts:List Tk) {V V':List UInt8→Nat→Int}:∀ (t:Ast) (i n:Nat),(∀ j∈und ts t i,V (lAt ts j) n=V' (lAt ts j) n)→(∀ w n',n'<n→V w n'=V' w n')→evT ts V t i n=evT ts V' t i n:=by
 intro t
 induction t with
 | leaf=>
  intro i n h _
  unfold evT
  by_cases hk:(tkAt ts i).kind=1
  ·rw [if_pos hk,if_pos hk];exact h i (by unfold und;rw [if_pos hk];simp)
  ·rw [if_neg hk,if_neg hk]
 | neg a iha=>intro i n h h2;simp only [evT];rw [iha _ n h h2]
 | ite a b c iha ihb ihc=>
  intro i n h h2
  simp only [und,List.mem_append] at h
  simp only [evT]
  rw [iha _ n (fun j hj=>h j (.inl hj)) h2,ihb _ n (fun j hj=>h j (.inr (.inl hj))) h2,ihc _ n (fun j hj=>h j (.inr (.inr hj))) h2]
 | dly b ihb=>
  intro i n h h2
  cases n with
  | zero=>rfl
  | succ n=>simp only [evT];exact ihb _ n (fun j _=>h2 _ n (by omega)) (fun w n' hn=>h2 w n' (by omega))
 | bin a b iha ihb=>
  intro i n h h2
  simp only [und,List.mem_append] at h
  simp only [evT]
  rw [iha _ n (fun j hj=>h j (.inl hj)) h2,ihb _ n (fun j hj=>h j (.inr hj)) h2]
def evR (ts:List Tk) (V:List UInt8→Nat→Int × Bool):Ast→Nat→Nat→Int × Bool
 | .leaf,i,n=>if (tkAt ts i).kind=1 then V (lAt ts i) n else (litV (tkAt ts i),true)
 | .neg a,i,n=>(w64 (1 - (evR ts V a (i+2) n).1),(evR ts V a (i+2) n).2)
 | .ite a b c,i,n=>(if (evR ts V a (i+2) n).1=1 then (evR ts V b (i+2+a.len) n).1 else (evR ts V c (i+2+a.len+b.len) n).1,(evR ts V a (i+2) n).2 && ((evR ts V b (i+2+a.len) n).2 && (evR ts V c (i+2+a.len+b.len) n).2))
 | .dly _,i,0=>(litV (tkAt ts (i+1)),true)
 | .dly b,i,n+1=>evR ts V b (i+3) n
 | .bin a b,i,n=>(apF (lAt ts (i+1+a.len)) (evR ts V a (i+1) n).1 (evR ts V b (i+2+a.len) n).1,(evR ts V a (i+1) n).2 && (evR ts V b (i+2+a.len) n).2)
theorem evR_val (ts:List Tk) {V:List UInt8→Nat→Int × Bool}{U:List UInt8→Nat→Int}:∀ (t:Ast) (i n:Nat),(∀ w n',n'≤n→(V w n').2=true→(V w n').1=U w n')→(evR ts V t i n).2=true→(evR ts V t i n).1=evT ts U t i n:=by
 intro t
 induction t with
 | leaf=>
  intro i n h hk
  unfold evR evT at *
  split at hk
  ·rename_i h1;rw [if_pos h1,if_pos h1];exact h _ n (Nat.le_refl _) hk
  ·rename_i h1;rw [if_neg h1,if_neg h1]
 | neg a iha=>intro i n h hk;simp only [evR,evT] at *;rw [iha _ n h hk]
 | ite a b c iha ihb ihc=>
  intro i n h hk
  simp only [evR,evT,Bool.and_eq_true] at *
  rw [iha _ n h hk.1,ihb _ n h hk.2.1,ihc _ n h hk.2.2]
 | dly b ihb=>
  intro i n h hk
  cases n with
  | zero=>rfl
  | succ n=>simp only [evR,evT] at *;exact ihb _ n (fun w n' hn=>h w n' (by omega)) hk
 | bin a b iha ihb=>
  intro i n h hk
  simp only [evR,evT,Bool.and_eq_true] at *
  rw [iha _ n h hk.1,ihb _ n h hk.2]
theorem evR_known (ts:List Tk) {V:List UInt8→Nat→Int × Bool}:∀ (t:Ast) (i n:Nat),(∀ j∈und ts t i,(V (lAt ts j) n).2=true)→(∀ j∈nms ts t i,∀ n',n'<n→(V (lAt ts j) n').2=true)→(evR ts V t i n).2=true:=by
 intro t
 induction t with
 | leaf=>
  intro i n h _
  unfold evR
  by_cases hk:(tkAt ts i).kind=1
  ·rw [if_pos hk];exact h i (by unfold und;rw [if_pos hk];simp)
  ·rw [if_neg hk]
 | neg a iha=>intro i n h h2;simp only [evR];exact iha _ n h h2
 | ite a b c iha ihb ihc=>
  intro i n h h2
  simp only [und,nms,List.mem_append] at h h2
  simp only [evR,Bool.and_eq_true]
  exact ⟨iha _ n (fun j hj=>h j (.inl hj)) (fun j hj=>h2 j (.inl hj)),ihb _ n (fun j hj=>h j (.inr (.inl hj))) (fun j hj=>h2 j (.inr (.inl hj))),ihc _ n (fun j hj=>h j (.inr (.inr hj))) (fun j hj=>h2 j (.inr (.inr hj)))⟩
 | dly b ihb=>
  intro i n h h2
  cases n with
  | zero=>rfl
  | succ n=>simp only [evR];exact ihb _ n (fun j hj=>h2 j (und_nms ts b _ j hj) n (by omega)) (fun j hj n' hn=>h2 j hj n' (by omega))
 | bin a b iha ihb=>
  intro i n h h2
  simp only [und,nms,List.mem_append] at h h2
  simp only [evR,Bool.and_eq_true]
  exact ⟨iha _ n (fun j hj=>h j (.inl hj)) (fun j hj=>h2 j (.inl hj)),ihb _ n (fun j hj=>h j (.inr hj)) (fun j hj=>h2 j (.inr hj))⟩
def nmIs (ts:List Tk) (w:List UInt8) (x:Dl):Bool:=(nameD ts x).data.toList == w
def inIx (ts:List Tk) (L:List Dl) (w:List UInt8):Option Nat:=(inL L).findIdx? (nmIs ts w)
def eqIx (ts:List Tk) (L:List Dl) (w:List UInt8):Option Nat:=(eqL L).findIdx? (nmIs ts w)
def elemF (ins:List (List Int)) (i k:Nat):Int:=(ins.getD i []).getD k 0
def valV (ts:List Tk) (L:List Dl) (ins:List (List Int)) (R:Nat→Nat→Int) (w:List UInt8) (n:Nat):Int:=
 match inIx ts L w with
 | some i=>elemF ins i n
 | none=>match eqIx ts L w with
  | some j=>R j n
  | none=>0
def bodyV (ts:List Tk) (E:List Dl) (V:List UInt8→Nat→Int) (j n:Nat):Int:=
 match E[j]? with
 | some x=>evT ts V x.t (x.i+5) n
 | none=>0
def solF (ts:List Tk) (L:List Dl) (ins:List (List Int)):Nat→Nat→Nat→Int
 | 0,_,_=>0
 | f+1,j,n=>bodyV ts (eqL L) (valV ts L ins (solF ts L ins f)) j n
def sol (ts:List Tk) (L:List Dl) (ins:List (List Int)) (j n:Nat):Int:=solF ts L ins (n * ((eqL L).length+1)+(eqL L).length+1) j n
theorem valV_congr {ts:List Tk}{L:List Dl}{ins:List (List Int)}{R R':Nat→Nat→Int}{w:List UInt8}{n:Nat} (h:∀ j,eqIx ts L w=some j→R j n=R' j n):valV ts L ins R w n=valV ts L ins R' w n:=by
 unfold valV
 cases inIx ts L w with
 | some i=>rfl
 | none=>
  cases he:eqIx ts L w with
  | none=>rfl
  | some j=>exact h j he
theorem eqIx_some {ts:List Tk}{L:List Dl}{w:List UInt8}{j:Nat} (h:eqIx ts L w=some j):∃ x,(eqL L)[j]? = some x∧(nameD ts x).data.toList=w:=by
 obtain ⟨hj,hp,_⟩:=List.findIdx?_eq_some_iff_getElem.1 h
 exact ⟨(eqL L)[j],List.getElem?_eq_getElem hj,by simpa [nmIs] using hp⟩
theorem rel_und {ts:List Tk} (hF:∀ i,TkF (tkAt ts i)) {L:List Dl}{i l j:Nat}{x:Dl} (hx:(eqL L)[i]? = some x) (hs:Sp ts x.t (x.i+5)) (hl:x.i+5+x.t.len≤ts.length) (hj:j∈und ts x.t (x.i+5)) (he:eqIx ts L (lAt ts j)=some l):relR ts L i l=true:=by
 obtain ⟨z,hz,hn⟩:=eqIx_some he
 unfold relR
 rw [hx,hz]
 show hangsR ts x (nameD ts z).data.toList=true
 rw [hangs_nm hF x hs hl,List.any_eq_true]
 exact ⟨(j,false),und_nmD ts _ _ j hj,by simp [hn]⟩
structure Eqs (ts:List Tk) (L:List Dl):Prop where
 F:∀ i,TkF (tkAt ts i)
 sp:∀ x∈eqL L,Sp ts x.t (x.i+5)∧x.i+5+x.t.len≤ts.length
 cyc:cycR ts L=none
section
variable {ts:List Tk} {L:List Dl} {ins:List (List Int)} (H:Eqs ts L)
include H
theorem sol_stable:∀ m f f' j n,j<(eqL L).length→n * ((eqL L).length+1)+rk ts L j≤m→m<f→m<f'→solF ts L ins f j n=solF ts L ins f' j n:=by
 intro m
 induction m using Nat.strongRecOn with
 | ind m ih=>
  intro f f' j n hj hm hf hf'
  obtain ⟨f,rfl⟩:∃ g,f=g+1:=⟨f - 1,by omega⟩
  obtain ⟨f',rfl⟩:∃ g,f'=g+1:=⟨f' - 1,by omega⟩
  have hx:(eqL L)[j]? = some (eqL L)[j]:=List.getElem?_eq_getElem hj
  obtain ⟨hs,hl⟩:=H.sp (eqL L)[j] (List.getElem_mem hj)
  simp only [solF,bodyV,hx]
  refine evT_congr ts _ _ _ (fun k hk=>valV_congr fun l hl'=>?_) (fun w n' hn=>valV_congr fun l hl'=>?_)
  ·have hr:=rel_und H.F hx hs hl hk hl'
   obtain ⟨z,hz,_⟩:=eqIx_some hl'
   have hlt:l<(eqL L).length:=(List.getElem?_eq_some_iff.1 hz).1
   have hrk:=rk_less H.cyc hlt hr
   exact ih (n * ((eqL L).length+1)+rk ts L l) (by omega) f f' l n hlt (Nat.le_refl _) (by omega) (by omega)
  ·obtain ⟨z,hz,_⟩:=eqIx_some hl'
   have hlt:l<(eqL L).length:=(List.getElem?_eq_some_iff.1 hz).1
   have hrk:=rk_lt H.cyc hlt
   have hmul:(n'+1) * ((eqL L).length+1)≤n * ((eqL L).length+1):=Nat.mul_le_mul_right _ (by omega)
   rw [Nat.succ_mul] at hmul
   exact ih (n' * ((eqL L).length+1)+rk ts L l) (by omega) f f' l n' hlt (Nat.le_refl _) (by omega) (by omega)
theorem sol_eq (j n:Nat) (hj:j<(eqL L).length):sol ts L ins j n=evT ts (valV ts L ins (sol ts L ins)) (eqL L)[j].t ((eqL L)[j].i+5) n:=by
 have hx:(eqL L)[j]? = some (eqL L)[j]:=List.getElem?_eq_getElem hj
 obtain ⟨hs,hl⟩:=H.sp (eqL L)[j] (List.getElem_mem hj)
 have hjr:=rk_lt H.cyc hj
 show bodyV ts (eqL L) (valV ts L ins (solF ts L ins (n * ((eqL L).length+1)+(eqL L).length))) j n=_
 simp only [bodyV,hx]
 refine evT_congr ts _ _ _ (fun k hk=>valV_congr fun l hl'=>?_) (fun w n' hn=>valV_congr fun l hl'=>?_)
 ·have hr:=rel_und H.F hx hs hl hk hl'
  obtain ⟨z,hz,_⟩:=eqIx_some hl'
  have hlt:l<(eqL L).length:=(List.getElem?_eq_some_iff.1 hz).1
  have hrk:=rk_less H.cyc hlt hr
  exact sol_stable H (n * ((eqL L).length+1)+rk ts L l) _ _ l n hlt (Nat.le_refl _) (by omega) (by omega)
 ·obtain ⟨z,hz,_⟩:=eqIx_some hl'
  have hlt:l<(eqL L).length:=(List.getElem?_eq_some_iff.1 hz).1
  have hrk:=rk_lt H.cyc hlt
  have hmul:(n'+1) * ((eqL L).length+1)≤n * ((eqL L).length+1):=Nat.mul_le_mul_right _ (by omega)
  rw [Nat.succ_mul] at hmul
  exact sol_stable H (n' * ((eqL L).length+1)+rk ts L l) _ _ l n' hlt (Nat.le_refl _) (by omega) (by omega)
end
structure ROk (ts:List Tk) (L:List Dl):Prop where
 F:∀ i,TkF (tkAt ts i)
 E:∀ i,(tkAt ts i).kind=0→ts.length≤i+1
 len:ts.length≤1501
 pos:0<ts.length
 sp:Spell ts L 0
theorem ROk.mem {ts:List Tk}{L:List Dl} (h:ROk ts L) {x:Dl} (hx:x∈L):x.i+x.len<ts.length∧DlOk ts x:=(spell_mem L 0 h.sp x hx).2
theorem ROk.eq {ts:List Tk}{L:List Dl} (h:ROk ts L) {x:Dl} (hx:x∈eqL L):x∈L∧x.kind≠0∧Sp ts x.t (x.i+5)∧x.i+5+x.t.len<ts.length∧placeD ts x<4:=by
 have hm:=List.mem_filter.1 hx
 have hk:x.kind≠0:=by simpa using hm.2
 obtain ⟨h1,h2⟩:=h.mem hm.1
 have hl:x.len=x.t.len+6:=by unfold Dl.len;rw [if_neg hk]
 refine ⟨hm.1,hk,?_,by omega,?_⟩
 ·rcases h2 with ⟨h,_⟩ | ⟨_,_,_,_,_,h,_⟩
  ·exact absurd h hk
  ·exact h
 ·rcases h2 with ⟨h,_⟩ | ⟨_,_,_,h,_⟩
  ·exact absurd h hk
  ·exact h.2
theorem spell_len {ts:List Tk}:∀ (L:List Dl) (i:Nat),Spell ts L i→L.length+i≤ts.length:=by
 intro L
 induction L with
 | nil=>intro i h;have:=h.1;simp;omega
 | cons x r ih=>intro i h;have:=ih _ h.2.2.2;have:=Dl.len_pos x;simp;omega
theorem ROk.many {ts:List Tk}{L:List Dl} (h:ROk ts L):L.length≤1501∧(eqL L).length≤1501∧(inL L).length≤1501:=by
 have h1:=spell_len L 0 h.sp
 have h2:=h.len
 have h3:=List.length_filter_le (fun x:Dl=>x.kind != 0) L
 have h4:=List.length_filter_le (fun x:Dl=>x.kind == 0) L
 exact ⟨by omega,by unfold eqL;omega,by unfold inL;omega⟩
end Go.Proofs.YtmndgoapkmhglabGreat
namespace Go.Proofs.YtmndgoapkmhglabGreat
open Go.RowKit
attribute [local go_sem ↓] Go.wp_at_zero Go.wp_at_succ
theorem tok_step (t:RTk) (w:World):∀ w1,Below (w.alloc (.cells #[.int .u8 (t.c:Int),.string t.word,.int .i64 (t.pos:Int),.int .i64 (t.n:Int)] 108)).heap.size (w.alloc (.cells #[.int .u8 (t.c:Int),.string t.word,.int .i64 (t.pos:Int),.int .i64 (t.n:Int)] 108)) w1→
   w1.cell? ⟨w.heap.size,0,none⟩=some (.int .u8 (t.c:Int))∧w1.cell? ⟨w.heap.size,1,none⟩=some (.string t.word)∧w1.cell? ⟨w.heap.size,2,none⟩=some (.int .i64 (t.pos:Int))∧w1.cell? ⟨w.heap.size,3,none⟩=some (.int .i64 (t.n:Int))∧Below w.heap.size w w1:=fun w1 hb=>by
  have hN:=(hb.block w.heap.size (by simp)).trans (heap_alloc_new w _)
  refine ⟨?_,?_,?_,?_,((Below.refl _ _).alloc (Nat.le_refl _) _).trans (hb.mono (by simp))⟩
  ·rw [cell_of_row w1 _ 0 _ _ _ hN];rfl
  ·rw [cell_of_row w1 _ 1 _ _ _ hN];rfl
  ·rw [cell_of_row w1 _ 2 _ _ _ hN];rfl
  ·rw [cell_of_row w1 _ 3 _ _ _ hN];rfl
set_option maxHeartbeats 4000000 in
theorem rule80_any (t:RTk) (d:Int) (w:World) :
  Calls Tryz.prog 71 #[.int .u8 80,t.val,.int .i64 d] w fun e w'=>e = .returned (tri (ruleF 80 t d))∧Below w.heap.size w w':=by
 have HSTEP:=hide (tok_step t w)
 by_cases h1:t.l=kIn
 ·have HF:Hid (ruleF 80 t d=([97,59,80],true,true)):=hide (by unfold ruleF;rw [if_pos (by decide),if_pos h1])
  have q1:=str_yes (t:=t.word) h1
  simp only [kIn] at q1
  clear h1
  go_enter Tryz.func71,Tryz.ntmps71
  go_wp2_with fail
  refine (rliteral_any t _).mono ?_
  rintro e w1 ⟨rfl,hb1⟩
  obtain ⟨d0,d1,d2,d3,hbw⟩:=HSTEP.out w1 hb1
  clear hb1
  go_wp2_with fail
  refine (roperator_any t.word _).mono ?_
  rintro e w2 ⟨rfl,rfl⟩
  go_wp2_with fail
  go_ret3
  exact ⟨by rw [HF.out];rfl,hbw⟩
 have q1:=str_no (t:=t.word) h1
 simp only [kIn] at q1
 by_cases h2:t.l=kInt
 ·have HF:Hid (ruleF 80 t d=([97,84,81,61,69,59,80],true,true)):=hide (by unfold ruleF;rw [if_pos (by decide),if_neg h1,h2];rfl)
  have q2:=str_yes (t:=t.word) h2
  simp only [kInt] at q2
  clear h1 h2 q1
  go_enter Tryz.func71,Tryz.ntmps71
  go_wp2_with fail
  refine (rliteral_any t _).mono ?_
  rintro e w1 ⟨rfl,hb1⟩
  obtain ⟨d0,d1,d2,d3,hbw⟩:=HSTEP.out w1 hb1
  clear hb1
  go_wp2_with fail
  refine (roperator_any t.word _).mono ?_
  rintro e w2 ⟨rfl,rfl⟩
  go_wp2_with fail
  go_quiet (fail)
  go_wp2
  go_ret3
  exact ⟨by rw [HF.out];rfl,below_drewN hbw _⟩
 have q2:=str_no (t:=t.word) h2
 simp only [kInt] at q2
 by_cases h3:t.l=kBool
 ·have HF:Hid (ruleF 80 t d=([97,84,81,61,69,59,80],true,true)):=hide (by unfold ruleF;rw [if_pos (by decide),if_neg h1,h3];rfl)
  have q3:=str_yes (t:=t.word) h3
  simp only [kBool] at q3
  clear h1 h2 h3 q1 q2
  go_enter Tryz.func71,Tryz.ntmps71
  go_wp2_with fail
  refine (rliteral_any t _).mono ?_
  rintro e w1 ⟨rfl,hb1⟩
  obtain ⟨d0,d1,d2,d3,hbw⟩:=HSTEP.out w1 hb1
  clear hb1
  go_wp2_with fail
  refine (roperator_any t.word _).mono ?_
  rintro e w2 ⟨rfl,rfl⟩
  go_wp2_with fail
  go_quiet (fail)
  go_wp2
  go_ret3
  exact ⟨by rw [HF.out];rfl,below_drewN hbw _⟩
 have q3:=str_no (t:=t.word) h3
 simp only [kBool] at q3
 have HF:Hid (ruleF 80 t d=([97,84,81,61,69,59,80],true,false)):=hide (by unfold ruleF;rw [if_pos (by decide),if_neg h1];simp [h2,h3])
 clear h1 h2 h3
 go_enter Tryz.func71,Tryz.ntmps71
 go_wp2_with fail
 refine (rliteral_any t _).mono ?_
 rintro e w1 ⟨rfl,hb1⟩
 obtain ⟨d0,d1,d2,d3,hbw⟩:=HSTEP.out w1 hb1
 clear hb1
 go_wp2_with fail
 refine (roperator_any t.word _).mono ?_
 rintro e w2 ⟨rfl,rfl⟩
 go_wp2_with fail
 go_quiet (fail)
 go_wp2
 go_ret3
 exact ⟨by rw [HF.out];rfl,below_drewN hbw _⟩
set_option maxHeartbeats 4000000 in
theorem rule97_any (t:RTk) (d:Int) (w:World) :
  Calls Tryz.prog 71 #[.int .u8 97,t.val,.int .i64 d] w fun e w'=>e = .returned (tri (ruleF 97 t d))∧Below w.heap.size w w':=by
 have HSTEP:=hide (tok_step t w)
 by_cases h1:t.c=97
 ·have HF:Hid (ruleF 97 t d=([],true,true)):=hide (by unfold ruleF;rw [if_neg (by decide),if_pos (by decide),h1];rfl)
  have q1:((t.c:Int) == 97)=true:=by rw [h1];rfl
  clear h1
  go_enter Tryz.func71,Tryz.ntmps71
  go_wp2_with fail
  refine (rliteral_any t _).mono ?_
  rintro e w1 ⟨rfl,hb1⟩
  obtain ⟨d0,d1,d2,d3,hbw⟩:=HSTEP.out w1 hb1
  clear hb1
  go_wp2_with fail
  refine (roperator_any t.word _).mono ?_
  rintro e w2 ⟨rfl,rfl⟩
  go_wp2_with fail
  go_quiet (fail)
  go_wp2
  go_ret3
  exact ⟨by rw [HF.out];rfl,below_drewN hbw _⟩
 have HF:Hid (ruleF 97 t d=([],true,false)):=hide (by unfold ruleF;rw [if_neg (by decide),if_pos (by decide),beq_eq_false_iff_ne.2 h1])
 have q1:((t.c:Int) == 97)=false:=by rw [beq_eq_false_iff_ne];omega
 clear h1
 go_enter Tryz.func71,Tryz.ntmps71
 go_wp2_with fail
 refine (rliteral_any t _).mono ?_
 rintro e w1 ⟨rfl,hb1⟩
 obtain ⟨d0,d1,d2,d3,hbw⟩:=HSTEP.out w1 hb1
 clear hb1
 go_wp2_with fail
 refine (roperator_any t.word _).mono ?_
 rintro e w2 ⟨rfl,rfl⟩
 go_wp2_with fail
 go_quiet (fail)
 go_wp2
 go_ret3
 exact ⟨by rw [HF.out];rfl,below_drewN hbw _⟩
set_option maxHeartbeats 4000000 in
theorem rule84_any (t:RTk) (d:Int) (w:World) :
  Calls Tryz.prog 71 #[.int .u8 84,t.val,.int .i64 d] w fun e w'=>e = .returned (tri (ruleF 84 t d))∧Below w.heap.size w w':=by
 have HSTEP:=hide (tok_step t w)
 by_cases h1:t.l=kAt
 ·have HF:Hid (ruleF 84 t d=([],true,true)):=hide (by unfold ruleF;rw [if_neg (by decide),if_neg (by decide),if_pos (by decide),h1];rfl)
  have q1:=str_yes (t:=t.word) h1
  simp only [kAt] at q1
  clear h1
  go_enter Tryz.func71,Tryz.ntmps71
  go_wp2_with fail
  refine (rliteral_any t _).mono ?_
  rintro e w1 ⟨rfl,hb1⟩
  obtain ⟨d0,d1,d2,d3,hbw⟩:=HSTEP.out w1 hb1
  clear hb1
  go_wp2_with fail
  refine (roperator_any t.word _).mono ?_
  rintro e w2 ⟨rfl,rfl⟩
  go_wp2_with fail
  go_quiet (fail)
  go_wp2
  go_ret3
  exact ⟨by rw [HF.out];rfl,below_drewN hbw _⟩
 have q1:=str_no (t:=t.word) h1
 simp only [kAt] at q1
 have HF:Hid (ruleF 84 t d=([],true,false)):=hide (by unfold ruleF;rw [if_neg (by decide),if_neg (by decide),if_pos (by decide)];simp [h1])
 clear h1
 go_enter Tryz.func71,Tryz.ntmps71
 go_wp2_with fail
 refine (rliteral_any t _).mono ?_
 rintro e w1 ⟨rfl,hb1⟩
 obtain ⟨d0,d1,d2,d3,hbw⟩:=HSTEP.out w1 hb1
 clear hb1
 go_wp2_with fail
 refine (roperator_any t.word _).mono ?_
 rintro e w2 ⟨rfl,rfl⟩
 go_wp2_with fail
 go_quiet (fail)
 go_wp2
 go_ret3
 exact ⟨by rw [HF.out];rfl,below_drewN hbw _⟩
set_option maxHeartbeats 4000000 in
theorem rule81_any (t:RTk) (d:Int) (w:World) :
  Calls Tryz.prog 71 #[.int .u8 81,t.val,.int .i64 d] w fun e w'=>e = .returned (tri (ruleF 81 t d))∧Below w.heap.size w w':=by
 have HSTEP:=hide (tok_step t w)
 by_cases h1:t.c=110
 ·have q1:((t.c:Int) == 110)=true:=by rw [h1];rfl
  have HF:Hid (ruleF 81 t d=([],true,decide ((t.n:Int)<4))):=hide (by unfold ruleF;rw [if_neg (by decide),if_neg (by decide),if_neg (by decide),if_pos (by decide),h1,decide_eq_decide.2 (show t.n<4↔(t.n:Int)<4 by omega)];rfl)
  clear h1
  go_enter Tryz.func71,Tryz.ntmps71
  go_wp2_with fail
  refine (rliteral_any t _).mono ?_
  rintro e w1 ⟨rfl,hb1⟩
  obtain ⟨d0,d1,d2,d3,hbw⟩:=HSTEP.out w1 hb1
  clear hb1
  go_wp2_with fail
  refine (roperator_any t.word _).mono ?_
  rintro e w2 ⟨rfl,rfl⟩
  go_wp2_with fail
  go_quiet (fail)
  go_wp2
  go_ret3
  exact ⟨by rw [HF.out];rfl,below_drewN hbw _⟩
 have q1:((t.c:Int) == 110)=false:=by rw [beq_eq_false_iff_ne];omega
 have HF:Hid (ruleF 81 t d=([],true,false)):=hide (by unfold ruleF;rw [if_neg (by decide),if_neg (by decide),if_neg (by decide),if_pos (by decide),beq_eq_false_iff_ne.2 h1];rfl)
 clear h1
 go_enter Tryz.func71,Tryz.ntmps71
 go_wp2_with fail
 refine (rliteral_any t _).mono ?_
 rintro e w1 ⟨rfl,hb1⟩
 obtain ⟨d0,d1,d2,d3,hbw⟩:=HSTEP.out w1 hb1
 clear hb1
 go_wp2_with fail
 refine (roperator_any t.word _).mono ?_
 rintro e w2 ⟨rfl,rfl⟩
 go_wp2_with fail
 go_quiet (fail)
 go_wp2
 go_ret3
 exact ⟨by rw [HF.out];rfl,below_drewN hbw _⟩
set_option maxHeartbeats 4000000 in
theorem rule69_any (t:RTk) (d:Int) (w:World) :
  Calls Tryz.prog 71 #[.int .u8 69,t.val,.int .i64 d] w fun e w'=>e = .returned (tri (ruleF 69 t d))∧Below w.heap.size w w':=by
 have HSTEP:=hide (tok_step t w)
 by_cases h1:t.l=[40]
 ·have q1:=str_yes (t:=t.word) h1
  have HF:Hid (ruleF 69 t d=([73,41],true,decide (d<16))):=hide (by unfold ruleF;rw [if_neg (by decide),if_neg (by decide),if_neg (by decide),if_neg (by decide),if_pos (by decide),if_pos h1])
  clear h1
  go_enter Tryz.func71,Tryz.ntmps71
  go_wp2_with fail
  refine (rliteral_any t _).mono ?_
  rintro e w1 ⟨rfl,hb1⟩
  obtain ⟨d0,d1,d2,d3,hbw⟩:=HSTEP.out w1 hb1
  clear hb1
  go_wp2_with fail
  refine (roperator_any t.word _).mono ?_
  rintro e w2 ⟨rfl,rfl⟩
  go_wp2_with fail
  go_ret3
  exact ⟨by rw [HF.out];rfl,hbw⟩
 have q1:=str_no (t:=t.word) h1
 by_cases h2:rlit t=true
 ·have HF:Hid (ruleF 69 t d=([],true,true)):=hide (by unfold ruleF;rw [if_neg (by decide),if_neg (by decide),if_neg (by decide),if_neg (by decide),if_pos (by decide),if_neg h1,h2];rfl)
  clear h1
  go_enter Tryz.func71,Tryz.ntmps71
  go_wp2_with fail
  refine (rliteral_any t _).mono ?_
  rintro e w1 ⟨rfl,hb1⟩
  rw [h2]
  obtain ⟨d0,d1,d2,d3,hbw⟩:=HSTEP.out w1 hb1
  clear hb1
  go_wp2_with fail
  refine (roperator_any t.word _).mono ?_
  rintro e w2 ⟨rfl,rfl⟩
  go_wp2_with fail
  go_quiet (fail)
  go_wp2
  go_ret3
  exact ⟨by rw [HF.out];rfl,below_drewN hbw _⟩
 have h2':rlit t=false:=by simpa using h2
 by_cases h3:t.c=97
 ·have HF:Hid (ruleF 69 t d=([],true,true)):=hide (by unfold ruleF;rw [if_neg (by decide),if_neg (by decide),if_neg (by decide),if_neg (by decide),if_pos (by decide),if_neg h1,h2',h3];rfl)
  have q3:((t.c:Int) == 97)=true:=by rw [h3];rfl
  clear h1 h2 h3
  go_enter Tryz.func71,Tryz.ntmps71
  go_wp2_with fail
  refine (rliteral_any t _).mono ?_
  rintro e w1 ⟨rfl,hb1⟩
  rw [h2']
  obtain ⟨d0,d1,d2,d3,hbw⟩:=HSTEP.out w1 hb1
  clear hb1
  go_wp2_with fail
  refine (roperator_any t.word _).mono ?_
  rintro e w2 ⟨rfl,rfl⟩
  go_wp2_with fail
  go_quiet (fail)
  go_wp2
  go_ret3
  exact ⟨by rw [HF.out];rfl,below_drewN hbw _⟩
 have HF:Hid (ruleF 69 t d=([],true,false)):=hide (by unfold ruleF;rw [if_neg (by decide),if_neg (by decide),if_neg (by decide),if_neg (by decide),if_pos (by decide),if_neg h1,h2',beq_eq_false_iff_ne.2 h3];rfl)
 have q3:((t.c:Int) == 97)=false:=by rw [beq_eq_false_iff_ne];omega
 clear h1 h2 h3
 go_enter Tryz.func71,Tryz.ntmps71
 go_wp2_with fail
 refine (rliteral_any t _).mono ?_
 rintro e w1 ⟨rfl,hb1⟩
 rw [h2']
 obtain ⟨d0,d1,d2,d3,hbw⟩:=HSTEP.out w1 hb1
 clear hb1
 go_wp2_with fail
 refine (roperator_any t.word _).mono ?_
 rintro e w2 ⟨rfl,rfl⟩
 go_wp2_with fail
 go_quiet (fail)
 go_wp2
 go_ret3
 exact ⟨by rw [HF.out];rfl,below_drewN hbw _⟩
set_option maxHeartbeats 4000000 in
theorem rule73_any (t:RTk) (d:Int) (w:World) :
  Calls Tryz.prog 71 #[.int .u8 73,t.val,.int .i64 d] w fun e w'=>e = .returned (tri (ruleF 73 t d))∧Below w.heap.size w w':=by
 have HSTEP:=hide (tok_step t w)
 have HF:Hid (ruleF 73 t d=insF t):=hide (by unfold ruleF;rw [if_neg (by decide),if_neg (by decide),if_neg (by decide),if_neg (by decide),if_neg (by decide),if_pos (by decide)])
 go_enter Tryz.func71,Tryz.ntmps71
 go_wp2_with fail
 refine (rliteral_any t _).mono ?_
 rintro e w1 ⟨rfl,hb1⟩
 obtain ⟨d0,d1,d2,d3,hbw⟩:=HSTEP.out w1 hb1
 clear hb1
 go_wp2_with fail
 refine (roperator_any t.word _).mono ?_
 rintro e w2 ⟨rfl,rfl⟩
 go_wp2_with fail
 refine (rinside_any t _).mono ?_
 rintro e w3 ⟨rfl,hb3⟩
 go_wp2_with fail
 go_ret3
 exact ⟨by rw [HF.out];rfl,hbw.trans (hb3.mono hbw.size)⟩
set_option maxHeartbeats 4000000 in
theorem rule76_any (t:RTk) (d:Int) (w:World) :
  Calls Tryz.prog 71 #[.int .u8 76,t.val,.int .i64 d] w fun e w'=>e = .returned (tri (ruleF 76 t d))∧Below w.heap.size w w':=by
 have HSTEP:=hide (tok_step t w)
 by_cases h1:rop t.word.data.toList=true
 ·have HF:Hid (ruleF 76 t d=([69],true,true)):=hide (by unfold ruleF;rw [if_neg (by decide),if_neg (by decide),if_neg (by decide),if_neg (by decide),if_neg (by decide),if_neg (by decide),if_pos (by decide),show rop t.l=true from h1];rfl)
  go_enter Tryz.func71,Tryz.ntmps71
  go_wp2_with fail
  refine (rliteral_any t _).mono ?_
  rintro e w1 ⟨rfl,hb1⟩
  obtain ⟨d0,d1,d2,d3,hbw⟩:=HSTEP.out w1 hb1
  clear hb1
  go_wp2_with fail
  refine (roperator_any t.word _).mono ?_
  rintro e w2 ⟨rfl,rfl⟩
  rw [h1]
  go_wp2_with fail
  go_quiet (fail)
  go_wp2
  go_ret3
  exact ⟨by rw [HF.out];rfl,below_drewN hbw _⟩
 have h1':rop t.word.data.toList=false:=by simpa using h1
 by_cases h2:t.l=kFby
 ·have HF:Hid (ruleF 76 t d=([69],true,true)):=hide (by unfold ruleF;rw [if_neg (by decide),if_neg (by decide),if_neg (by decide),if_neg (by decide),if_neg (by decide),if_neg (by decide),if_pos (by decide),show rop t.l=false from h1',h2];rfl)
  have q2:=str_yes (t:=t.word) h2
  simp only [kFby] at q2
  clear h1 h2
  go_enter Tryz.func71,Tryz.ntmps71
  go_wp2_with fail
  refine (rliteral_any t _).mono ?_
  rintro e w1 ⟨rfl,hb1⟩
  obtain ⟨d0,d1,d2,d3,hbw⟩:=HSTEP.out w1 hb1
  clear hb1
  go_wp2_with fail
  refine (roperator_any t.word _).mono ?_
  rintro e w2 ⟨rfl,rfl⟩
  rw [h1']
  go_wp2_with fail
  go_quiet (fail)
  go_wp2
  go_ret3
  exact ⟨by rw [HF.out];rfl,below_drewN hbw _⟩
 have q2:=str_no (t:=t.word) h2
 simp only [kFby] at q2
 have HF:Hid (ruleF 76 t d=([69],true,false)):=hide (by unfold ruleF;rw [if_neg (by decide),if_neg (by decide),if_neg (by decide),if_neg (by decide),if_neg (by decide),if_neg (by decide),if_pos (by decide),show rop t.l=false from h1'];simp [h2])
 clear h1 h2
 go_enter Tryz.func71,Tryz.ntmps71
 go_wp2_with fail
 refine (rliteral_any t _).mono ?_
 rintro e w1 ⟨rfl,hb1⟩
 obtain ⟨d0,d1,d2,d3,hbw⟩:=HSTEP.out w1 hb1
 clear hb1
 go_wp2_with fail
 refine (roperator_any t.word _).mono ?_
 rintro e w2 ⟨rfl,rfl⟩
 rw [h1']
 go_wp2_with fail
 go_quiet (fail)
 go_wp2
 go_ret3
 exact ⟨by rw [HF.out];rfl,below_drewN hbw _⟩
set_option maxHeartbeats 4000000 in
theorem rule79_any (t:RTk) (d:Int) (w:World) :
  Calls Tryz.prog 71 #[.int .u8 79,t.val,.int .i64 d] w fun e w'=>e = .returned (tri (ruleF 79 t d))∧Below w.heap.size w w':=by
 have HSTEP:=hide (tok_step t w)
 have HF:Hid (ruleF 79 t d=([69],true,rop t.word.data.toList)):=hide (by unfold ruleF;rw [if_neg (by decide),if_neg (by decide),if_neg (by decide),if_neg (by decide),if_neg (by decide),if_neg (by decide),if_neg (by decide),if_pos (by decide)];rfl)
 go_enter Tryz.func71,Tryz.ntmps71
 go_wp2_with fail
 refine (rliteral_any t _).mono ?_
 rintro e w1 ⟨rfl,hb1⟩
 obtain ⟨d0,d1,d2,d3,hbw⟩:=HSTEP.out w1 hb1
 clear hb1
 go_wp2_with fail
 refine (roperator_any t.word _).mono ?_
 rintro e w2 ⟨rfl,rfl⟩
 go_wp2_with fail
 go_ret3
 exact ⟨by rw [HF.out];rfl,hbw⟩
theorem beq_cast (a b:Nat):((a:Int) == (b:Int))=(a == b):=by
 rw [Bool.eq_iff_iff,beq_iff_eq,beq_iff_eq];omega
theorem first_byte (t:RTk) (h:0<t.word.size):t.l.getD 0 0=t.word[0]'h:=by
 unfold RTk.l
 rw [List.getD_eq_getElem?_getD,Array.getElem?_toList,Array.getElem?_eq_getElem (by simpa using h)]
 rfl
set_option maxHeartbeats 4000000 in
theorem rule_other (x:Nat) (t:RTk) (d:Int) (w:World) (hx:x≠80∧x≠97∧x≠84∧x≠81∧x≠69∧x≠73∧x≠76∧x≠79) (ht:t.c=115→0<t.word.size) :
  Calls Tryz.prog 71 #[.int .u8 (x:Int),t.val,.int .i64 d] w fun e w'=>e = .returned (tri (ruleF x t d))∧Below w.heap.size w w':=by
 have HSTEP:=hide (tok_step t w)
 have n80:x≠80:=by omega
 have m80:((x:Int) == 80)=false:=by rw [beq_eq_false_iff_ne];omega
 have n97:x≠97:=by omega
 have m97:((x:Int) == 97)=false:=by rw [beq_eq_false_iff_ne];omega
 have n84:x≠84:=by omega
 have m84:((x:Int) == 84)=false:=by rw [beq_eq_false_iff_ne];omega
 have n81:x≠81:=by omega
 have m81:((x:Int) == 81)=false:=by rw [beq_eq_false_iff_ne];omega
 have n69:x≠69:=by omega
 have m69:((x:Int) == 69)=false:=by rw [beq_eq_false_iff_ne];omega
 have n73:x≠73:=by omega
 have m73:((x:Int) == 73)=false:=by rw [beq_eq_false_iff_ne];omega
 have n76:x≠76:=by omega
 have m76:((x:Int) == 76)=false:=by rw [beq_eq_false_iff_ne];omega
 have n79:x≠79:=by omega
 have m79:((x:Int) == 79)=false:=by rw [beq_eq_false_iff_ne];omega
 clear hx
 by_cases h1:t.c=115
 ·have q1:((t.c:Int) == 115)=true:=by rw [h1];rfl
  have hs:=ht h1
  have HF:Hid (ruleF x t d=([],true,(((t.word[0]'hs).toNat:Int) == (x:Int)))):=hide (by unfold ruleF;rw [if_neg n80,if_neg n97,if_neg n84,if_neg n81,if_neg n69,if_neg n73,if_neg n76,if_neg n79,h1,first_byte t hs,beq_cast];rfl)
  have i1:(0:Int)<(t.word.size:Int):=by omega
  clear h1 n80 n97 n84 n81 n69 n73 n76 n79
  go_enter Tryz.func71,Tryz.ntmps71
  go_wp2_with fail
  refine (rliteral_any t _).mono ?_
  rintro e w1 ⟨rfl,hb1⟩
  obtain ⟨d0,d1,d2,d3,hbw⟩:=HSTEP.out w1 hb1
  clear hb1
  go_wp2_with fail
  refine (roperator_any t.word _).mono ?_
  rintro e w2 ⟨rfl,rfl⟩
  go_wp2_with fail
  go_quiet (fail)
  go_wp2
  go_ret3
  exact ⟨by rw [HF.out];rfl,below_drewN hbw _⟩
 have q1:((t.c:Int) == 115)=false:=by rw [beq_eq_false_iff_ne];omega
 have HF:Hid (ruleF x t d=([],true,false)):=hide (by unfold ruleF;rw [if_neg n80,if_neg n97,if_neg n84,if_neg n81,if_neg n69,if_neg n73,if_neg n76,if_neg n79,beq_eq_false_iff_ne.2 h1];rfl)
 clear h1 n80 n97 n84 n81 n69 n73 n76 n79
 go_enter Tryz.func71,Tryz.ntmps71
 go_wp2_with fail
 refine (rliteral_any t _).mono ?_
 rintro e w1 ⟨rfl,hb1⟩
 obtain ⟨d0,d1,d2,d3,hbw⟩:=HSTEP.out w1 hb1
 clear hb1
 go_wp2_with fail
 refine (roperator_any t.word _).mono ?_
 rintro e w2 ⟨rfl,rfl⟩
 go_wp2_with fail
 go_quiet (fail)
 go_wp2
 go_ret3
 exact ⟨by rw [HF.out];rfl,below_drewN hbw _⟩
theorem rule_any (x:Nat) (t:RTk) (d:Int) (w:World) (ht:t.c=115→0<t.word.size) :
  Calls Tryz.prog 71 #[.int .u8 (x:Int),t.val,.int .i64 d] w fun e w'=>e = .returned (tri (ruleF x t d))∧Below w.heap.size w w':=by
 by_cases h1:x=80
 ·subst h1;exact rule80_any t d w
 by_cases h2:x=97
 ·subst h2;exact rule97_any t d w
 by_cases h3:x=84
 ·subst h3;exact rule84_any t d w
 by_cases h4:x=81
 ·subst h4;exact rule81_any t d w
 by_cases h5:x=69
 ·subst h5;exact rule69_any t d w
 by_cases h6:x=73
 ·subst h6;exact rule73_any t d w
 by_cases h7:x=76
 ·subst h7;exact rule76_any t d w
 by_cases h8:x=79
 ·subst h8;exact rule79_any t d w
 exact rule_other x t d w ⟨h1,h2,h3,h4,h5,h6,h7,h8⟩ ht
structure TokAt (w:World) (g cap:Nat) (ts:List Tk):Prop where
 own:w.ownsRow 0 108 4 (.slice (some ⟨g,0,none⟩) ts.length cap) ts.length (rkCells (ts.map rtok))
 lt:g<w.heap.size
theorem tkAt_get {ts:List Tk}{k:Nat} (hk:k<ts.length):tkAt ts k=ts[k]'hk:=by
 unfold tkAt;rw [List.getD_eq_getElem?_getD,List.getElem?_eq_getElem hk];rfl
theorem TokAt.cells {w wr:World}{g cap:Nat}{ts:List Tk} (h:TokAt w g cap ts) (hb:Below w.heap.size w wr) {k:Nat} (hk:k<ts.length) (a:RTk) (ha:a=rtok (tkAt ts k)) :
  wr.cell? ⟨g,k * 4,none⟩=some (.int .u8 (a.c:Int))∧wr.cell? ⟨g,k * 4+1,none⟩=some (.string a.word)∧wr.cell? ⟨g,k * 4+2,none⟩=some (.int .i64 (a.pos:Int))∧wr.cell? ⟨g,k * 4+3,none⟩=some (.int .i64 (a.n:Int)):=by
 have hcr:∀ j,j<4→wr.cell? ⟨g,k * 4+j,none⟩=a.cells[j]?:=fun j hj=>by
  rw [hb.cell (p:=⟨g,k * 4+j,none⟩) h.lt,h.own.cellAt (k * 4+j) (by omega)]
  have e:=flat_get RTk.cells 4 rk_len (ts.map rtok) k j (by simpa using hk) hj
  rw [List.getElem_map,← tkAt_get hk,← ha] at e
  exact e
 exact ⟨hcr 0 (by omega),hcr 1 (by omega),hcr 2 (by omega),hcr 3 (by omega)⟩
theorem TokAt.below {w w':World}{g cap:Nat}{ts:List Tk} (h:TokAt w g cap ts) (hb:Below w.heap.size w w'):TokAt w' g cap ts:=⟨bel_own h.own hb,Nat.lt_of_lt_of_le h.lt hb.size⟩
set_option maxHeartbeats 1000000 in
theorem behind_any (ts:List Tk) (i:Nat) (w:World) (g cap:Nat) (h:TokAt w g cap ts) (hF:∀ i,TkF (tkAt ts i)) (hl:ts.length≤1501) (hi:i≤ts.length) :
  Calls Tryz.prog 72 #[.slice (some ⟨g,0,none⟩) ts.length cap,.int .i64 (i:Int)] w fun e w'=>e = .returned (.int .i64 (behindF ts i:Nat))∧w=w':=by
 have HT:=hide h
 have HF:=hide hF
 clear h hF
 go_enter Tryz.func72,Tryz.ntmps72
 go_wp2
 go_loop [5,6] (fun d k=>∃ (m:Nat) (e:Int),m≤ts.length∧k = .int .i64 m∧d = .int .i64 e∧0≤e∧e≤(m:Int)∧bhF ts (ts.length - m) m e=behindF ts i) (fun _ k=>ts.length - (intOf k).toNat)
 case atStart=>exact ⟨i,0,hi,rfl,rfl,by omega,by omega,rfl⟩
 case round=>
  obtain ⟨m,e,hm,rfl,rfl,he0,he1,hrec⟩:=hrel
  by_cases hlt:m<ts.length
  ·obtain ⟨a,ha⟩:∃ a,a=rtok (tkAt ts m):=⟨_,rfl⟩
   obtain ⟨x0,x1,x2,x3⟩:=HT.out.cells (Below.refl _ _) hlt a ha
   have hk1:=(HF.out m).kw [40] (by decide)
   have hk2:=(HF.out m).kw [41] (by decide)
   rw [← ha] at hk1 hk2
   have hst:bhF ts (ts.length - m) m e=if dstep ts m e≤0 then m+1 else bhF ts (ts.length - (m+1)) (m+1) (dstep ts m e):=by
    rw [show ts.length - m=(ts.length - (m+1))+1 by omega];rfl
   rw [hst] at hrec
   have j1:(0:Int)≤(m:Int):=by omega
   have j2:(m:Int)<(ts.length:Int):=by omega
   by_cases h1:a.l=[40]
   ·have q1:=str_yes (t:=a.word) h1
    have hd:dstep ts m e=e+1:=by unfold dstep;rw [if_pos (hk1.1 h1)]
    rw [hd,if_neg (by omega)] at hrec
    have HR:=hide hrec
    have i1:¬ e+1≤0:=by omega
    clear hd hst hrec hk1 hk2 h1 ha
    go_wp2
    go_round
    case rel=>exact ⟨m+1,e+1,by omega,by go_num,by go_num,by omega,by omega,HR.out⟩
    case measure=>simp [intOf];omega
   ·have q1:=str_no (t:=a.word) h1
    by_cases h2:a.l=[41]
    ·have q2:=str_yes (t:=a.word) h2
     have hd:dstep ts m e=e - 1:=by unfold dstep;rw [if_neg (fun h=>h1 (hk1.2 h)),if_pos (hk2.1 h2)]
     rw [hd] at hrec
     by_cases h3:e - 1≤0
     ·rw [if_pos h3] at hrec
      have HR:=hide hrec
      clear hd hst hrec hk1 hk2 h1 h2 ha q1
      go_wp2
      go_ret
      exact ⟨by rw [← HR.out];go_num,rfl⟩
     ·rw [if_neg h3] at hrec
      have HR:=hide hrec
      clear hd hst hrec hk1 hk2 h1 h2 ha q1
      go_wp2
      go_round
      case rel=>exact ⟨m+1,e - 1,by omega,by go_num,by go_num,by omega,by omega,HR.out⟩
      case measure=>simp [intOf];omega
    ·have q2:=str_no (t:=a.word) h2
     have hd:dstep ts m e=e:=by unfold dstep;rw [if_neg (fun h=>h1 (hk1.2 h)),if_neg (fun h=>h2 (hk2.2 h))]
     rw [hd] at hrec
     by_cases h3:e≤0
     ·rw [if_pos h3] at hrec
      have HR:=hide hrec
      clear hd hst hrec hk1 hk2 h1 h2 ha
      go_wp2
      go_ret
      exact ⟨by rw [← HR.out];go_num,rfl⟩
     ·rw [if_neg h3] at hrec
      have HR:=hide hrec
      clear hd hst hrec hk1 hk2 h1 h2 ha
      go_wp2
      go_round
      case rel=>exact ⟨m+1,e,by omega,by go_num,rfl,by omega,by omega,HR.out⟩
      case measure=>simp [intOf];omega
  ·have em:ts.length - m=0:=by omega
   rw [em] at hrec
   have HR:=hide hrec
   have i1:¬ (m:Int)<(ts.length:Int):=by omega
   clear hrec em
   go_wp2
   go_ret
   exact ⟨by rw [← HR.out];rfl,rfl⟩
end Go.Proofs.YtmndgoapkmhglabGreat
