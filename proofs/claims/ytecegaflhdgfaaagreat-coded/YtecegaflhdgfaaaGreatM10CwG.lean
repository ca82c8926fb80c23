import Derived.Test.YtecegaflhdgfaaaGreatM09CwC
namespace Go.Proofs.YtecegaflhdgfaaaGreat
def UsedAt (ts:List Tk) (L:List Dl) (pl:Int) (j:Nat):Prop:=∃ x∈eqL L,((placeD ts x:Nat):Int)=pl∧j∈nms ts x.t (x.i+5)
theorem lateB_rs (ts:List Tk) (ds:List Dc) (pl:Int) (lk:List Rt) (rs rs':List Nat) (t:Ast) (i:Nat):lateB ⟨ts,ds,pl,lk,rs⟩ t i=lateB ⟨ts,ds,pl,lk,rs'⟩ t i:=by cases t <;> rfl
structure LtOk (ts:List Tk) (L:List Dl) (ds:List Dc) (ns:List Nd) (pl:Int) (lk:List Rt) (l:Lt):Prop where
 sp:Sp ts l.t l.i
 len:l.i+l.t.len≤ts.length
 wr:∃ w,wrongR ts L l.t l.i w=none
 nm:∀ j∈nms ts l.t l.i,UsedAt ts L pl j
 lt:lateB ⟨ts,ds,pl,lk,[]⟩ l.t l.i=false
 nd:AllAt (fun j n=>ns[j]? = some (bindF ds n)) l.o (flat ts l.t l.i l.dl l.o)
theorem later_name (E:WEnv) (s:WSt) (n:Nd):(wName E s n).1.later=s.later:=by
 unfold wName
 split
 ·rfl
 ·split <;> rfl
theorem later_leaf (E:WEnv) (s:WSt) (n:Nd):(wLeaf E s n).1.later=s.later:=by
 unfold wLeaf
 split
 ·exact later_name E s n
 ·rfl
theorem later_hand (E:WEnv) (s:WSt) (a b:Nd):(wHand E s a b).1.later=s.later:=by
 show (wName E _ b).1.later=_
 rw [later_name];rfl
section
variable {ts:List Tk} {L:List Dl} {ds:List Dc} {ns:List Nd} {pl:Int} {lk:List Rt} {rs:List Nat}
theorem wx_later:∀ (t:Ast) (i dl o w:Nat) (s:WSt),Sp ts t i→i+t.len≤ts.length→wrongR ts L t i w=none→(∀ j∈nms ts t i,UsedAt ts L pl j)→
  AllAt (fun j n=>ns[j]? = some (bindF ds n)) o (flat ts t i dl o)→(∀ l∈s.later,LtOk ts L ds ns pl lk l)→∀ l∈(wExpr ⟨ts,ds,pl,lk,rs⟩ t i dl o s).1.later,LtOk ts L ds ns pl lk l:=by
 intro t
 induction t with
 | leaf=>intro i dl o w s _ _ _ _ _ h l hl;simp only [wExpr] at hl;rw [later_leaf] at hl;exact h l hl
 | neg a iha=>
  intro i dl o w s hs hl hw hn hd h
  simp only [Ast.len] at hl
  simp only [wrongR] at hw
  exact iha (i+2) dl (o+1) 116 s hs.2.2.1 (by omega) (bad_if hw).2 hn hd.2 h
 | ite a b c iha ihb ihc=>
  intro i dl o w s hs hl hw hn hd h
  obtain ⟨_,_,sa,sb,sc,_⟩:=hs
  simp only [Ast.len] at hl
  simp only [wrongR] at hw
  obtain ⟨_,hw⟩:=bad_if hw
  obtain ⟨wa,hw⟩:=or_none hw
  obtain ⟨wb,wc⟩:=or_none hw
  simp only [nms,List.mem_append] at hn
  obtain ⟨_,hd⟩:=hd
  rw [allAt_app,allAt_app,flat_len,flat_len] at hd
  obtain ⟨da,db,dc⟩:=hd
  exact ihc _ dl _ w _ sc (by omega) wc (fun j hj=>hn j (.inr (.inr hj))) dc (ihb _ dl _ w _ sb (by omega) wb (fun j hj=>hn j (.inr (.inl hj))) db (iha _ dl _ 116 s sa (by omega) wa (fun j hj=>hn j (.inl hj)) da h))
 | dly b ihb=>
  intro i dl o w s hs hl hw hn hd h l hm
  obtain ⟨_,_,_,sb,_⟩:=hs
  simp only [Ast.len] at hl
  simp only [wrongR] at hw
  obtain ⟨_,hw⟩:=bad_if hw
  obtain ⟨_,wb⟩:=or_none hw
  simp only [wExpr] at hm
  by_cases hlt:lateB ⟨ts,ds,pl,lk,rs⟩ b (i+3)=true
  ·rw [if_pos hlt,later_hand] at hm;exact h l hm
  ·rw [if_neg hlt] at hm
   simp only [wCell,List.mem_append,List.mem_singleton] at hm
   rcases hm with hm | rfl
   ·exact h l hm
   ·exact ⟨sb,by show i+3+b.len≤_;omega,⟨w,wb⟩,hn,by rw [lateB_rs ts ds pl lk [] rs];simpa using hlt,hd.2.2⟩
 | bin a b iha ihb=>
  intro i dl o w s hs hl hw hn hd h
  obtain ⟨_,sa,_,sb,_⟩:=hs
  simp only [Ast.len] at hl
  simp only [wrongR] at hw
  obtain ⟨_,hw⟩:=bad_if hw
  obtain ⟨wa,wb⟩:=or_none hw
  simp only [nms,List.mem_append] at hn
  obtain ⟨_,hd⟩:=hd
  rw [allAt_app,flat_len] at hd
  obtain ⟨da,db⟩:=hd
  exact ihb _ dl _ _ _ sb (by omega) wb (fun j hj=>hn j (.inr hj)) db (iha _ dl _ _ s sa (by omega) wa (fun j hj=>hn j (.inl hj)) da h)
end
def dlOf (L:List Dl) (t:Nat):Dl:=(L[t]?).getD ⟨0,0,.leaf⟩
theorem dlOf_at {L:List Dl}{t:Nat}{x:Dl} (h:L[t]? = some x):dlOf L t=x:=by unfold dlOf;rw [h];rfl
def wTurn (ts:List Tk) (L:List Dl) (ds:List Dc) (pl:Int) (lk:List Rt) (x:WSt × List Nat) (t:Nat):WSt × Nat:=wExpr ⟨ts,ds,pl,lk,x.2⟩ (dlOf L t).t ((dlOf L t).i+5) 0 (rootAt ds (t:Int)) x.1
def wStep (ts:List Tk) (L:List Dl) (ds:List Dc) (pl:Int) (lk:List Rt) (x:WSt × List Nat) (t:Nat):WSt × List Nat:=
 if ((plAt ds (t:Int):Nat):Int)=pl then ((wTurn ts L ds pl lk x t).1,x.2.set t (wTurn ts L ds pl lk x t).2) else x
def wRoots (ts:List Tk) (L:List Dl) (ds:List Dc) (pl:Int) (lk:List Rt) (T:List Nat) (x:WSt × List Nat):WSt × List Nat:=T.foldl (wStep ts L ds pl lk) x
theorem wRoots_snoc (ts:List Tk) (L:List Dl) (ds:List Dc) (pl:Int) (lk:List Rt) (T:List Nat) (t:Nat) (x:WSt × List Nat):wRoots ts L ds pl lk (T ++ [t]) x=wStep ts L ds pl lk (wRoots ts L ds pl lk T x) t:=by
 unfold wRoots;rw [List.foldl_append];rfl
def lenOf (ts:List Tk) (pl:Int) (x:Dl):Nat:=if x.kind≠0∧((placeD ts x:Nat):Int)=pl then x.t.len else 0
def fbyOf (ts:List Tk) (pl:Int) (x:Dl):Nat:=if x.kind≠0∧((placeD ts x:Nat):Int)=pl then fbyT ts (x.i+5) x.t.len else 0
structure RInv (ts:List Tk) (L:List Dl) (ds:List Dc) (ns:List Nd) (pl:Int) (lk:List Rt) (T1:List Nat) (x:WSt × List Nat):Prop where
 len:x.2.length=ds.length
 sm:x.1.cells.length=x.1.later.length
 top:∀ t∈T1,((plAt ds (t:Int):Nat):Int)=pl→x.2.getD t 0<x.1.ops.length
 ok:∀ nc,x.1.cells.length≤nc→OpsOk nc x.1
 lt:∀ l∈x.1.later,LtOk ts L ds ns pl lk l
 bo:x.1.ops.length+lw x.1.later≤(T1.map fun t=>lenOf ts pl (dlOf L t)).sum
 bc:x.1.cells.length+lf ts x.1.later≤(T1.map fun t=>fbyOf ts pl (dlOf L t)).sum
theorem rsSet (l:List Nat) (t r u:Nat) (ht:t<l.length):(l.set t r).getD u 0=if u=t then r else l.getD u 0:=by
 rw [List.getD_eq_getElem?_getD,List.getD_eq_getElem?_getD,List.getElem?_set]
 by_cases h:t=u
 ·subst h;simp [ht]
 ·rw [if_neg h,if_neg (fun e=>h e.symm)]
structure WKnow (ts:List Tk) (L:List Dl) (ds:List Dc) (ns:List Nd):Prop where
 H:Right ts L
 hT:typesR ts L=none
 hds:ds=declsD ts L 0 0 0
 hns:ns=(nodesD ts L 0).map (bindF ds)
 hB:Both2 ts L ds ns
 p4:∀ x∈eqL L,placeD ts x<4
 eqs:∀ x∈eqL L,lAt ts (x.i+4)=[61]
section
variable {ts:List Tk} {L:List Dl} {ds:List Dc} {ns:List Nd} {pl:Int} (W:WKnow ts L ds ns)
include W
structure EqAt (ts:List Tk) (L:List Dl) (ds:List Dc) (ns:List Nd) (t:Nat) (z:Dl):Prop where
 zat:L[t]? = some z
 kind:z.kind≠0
 mem:z∈eqL L
 lt:t<ds.length
 place:plAt ds (t:Int)=placeD ts z
 num:(eqL L)[numAt ds (t:Int)]? = some z
 sp:Sp ts z.t (z.i+5)
 len:z.i+5+z.t.len≤ts.length
 wr:∃ w,wrongR ts L z.t (z.i+5) w=none
 nd:AllAt (fun j n=>ns[j]? = some (bindF ds n)) (rootAt ds (t:Int)) (flat ts z.t (z.i+5) 0 (rootAt ds (t:Int)))
theorem eq_at {t:Nat}{d:Dc} (hd:ds[t]? = some d) (hk:d.kind≠0):∃ z,EqAt ts L ds ns t z:=by
 rcases W.hB.dx.getOpt t with ⟨h1,_⟩ | ⟨d',z,h1,h2,h3⟩
 ·rw [h1] at hd;cases hd
 ·rw [hd] at h1;cases h1
  have hz:z.kind≠0:=by rw [← h3.kind];exact hk
  obtain ⟨d2,g1,g2,g3,g4,g5,g6,g7,g8,g9⟩:=dc_of W.hds W.hB h2
  rw [hd] at g1;cases g1
  have hm:z∈eqL L:=List.mem_filter.2 ⟨List.mem_of_getElem? h2,by simpa using hz⟩
  obtain ⟨hs,hl⟩:=W.H.sp z hm
  have hw:wrongR ts L z.t (z.i+5) (wB (z.kind == 2))=none:=by
   have:=W.hT
   unfold typesR at this
   rw [List.findSome?_eq_none_iff] at this
   exact this z hm
  have hY:=dy_all ts (bindF ds) (fun _ _=>0) L 0 0 0 [] (fun _=>[]) rfl (fun _=>rfl)
  rw [List.nil_append,← W.hns,← W.hds] at hY
  rcases hY.getOpt t with ⟨h1,_⟩ | ⟨d3,z3,h4,h5,h6⟩
  ·rw [hd] at h1;cases h1
  ·rw [hd] at h4;cases h4
   rw [h2] at h5;cases h5
   exact ⟨z,h2,hz,hm,g2,(g6 hz).1,g8 hz,hs,hl,⟨_,hw⟩,by rw [g9];exact h6.nodes hz⟩
theorem und_hang {t:Nat}{z:Dl} (hz:EqAt ts L ds ns t z) {j:Nat} (hj:j∈und ts z.t (z.i+5)) {b:Nat}{y:Dl} (hD:NmD ts L ds j b y) (hy:y.kind≠0):markAll ds ns 0 ds noM t b=true:=by
 have hE:∀ a x,L[a]? = some x→x.kind≠0→isE L a=true:=fun a x h1 h2=>by unfold isE;rw [h1];simpa using h2
 have e1:=hE t z hz.zat hz.kind
 have e2:=hE b y hD.zat hy
 rw [mark_rel W.H.F W.hB.N W.hB.sp W.hB.decl W.hB.dx t b e1 e2]
 have f1:(eqL L)[cntE L t]? = some z:=by rw [cntE_get L t e1];exact hz.zat
 have f2:(eqL L)[cntE L b]? = some y:=by rw [cntE_get L b e2];exact hD.zat
 refine rel_und W.H.F f1 hz.sp hz.len hj ?_
 obtain ⟨m,hm⟩:=ix_some (p:=nmIs ts (lAt ts j)) (List.mem_of_getElem? f2) (by unfold nmIs;rw [hD.name];simp)
 obtain ⟨y',h1,h2⟩:=eqIx_some (L:=L) hm
 have:=W.H.same h1 f2 (by rw [h2,hD.name])
 rw [← this];exact hm
theorem own_top {t:Nat}{z:Dl}{T1:List Nat}{rs:List Nat}{top:Nat} (hz:EqAt ts L ds ns t z) (hT:∀ b,markAll ds ns 0 ds noM t b=true→b∈T1) (ht:∀ u∈T1,((plAt ds (u:Int):Nat):Int)=pl→rs.getD u 0<top) {lk:List Rt} :
  ∀ j∈und ts z.t (z.i+5),OwnT ⟨ts,ds,pl,lk,rs⟩ top j:=by
 intro j hj hk hp
 have hjn:=und_nms ts _ _ j hj
 have hjl:=nms_lt z.t _ j hjn
 have hnm:=nms_nm z.t _ j hjn
 have hzl:=hz.len
 obtain ⟨b,y,hD⟩:=nm_decl W.H W.hds W.hB (by omega) hnm
 have hk1:(tkAt ts j).kind=1:=by unfold isNm at hnm;simpa using hnm
 obtain ⟨_,kd⟩:=leafB_name W.H.F (ds:=ds) (pl:=pl) (lk:=lk) (rs:=rs) (j:=j) (dl:=0) hk1
 rw [hD.find] at kd
 rw [kd] at hk hp ⊢
 have hk':y.kind≠0:=by rw [← hD.kind];exact hk
 exact ht b (hT b (und_hang W hz hj hD hk')) hp
theorem own_late {j:Nat}{lk:List Rt} (hlk:lk=toPl pl (routesR ts L)) (rs:List Nat) (hu:UsedAt ts L pl j):(wLink ⟨ts,ds,pl,lk,rs⟩ (leafB ⟨ts,ds,pl,lk,rs⟩ j 0)).2=true→((plAt ds (leafB ⟨ts,ds,pl,lk,rs⟩ j 0).decl:Nat):Int)≠pl:=by
 intro hl he
 subst hlk
 obtain ⟨x,hx,hp,hj⟩:=hu
 have hA:=nm_ok W.H W.hds W.hB W.p4 [] 0 pl rs hx hp hj
 rw [hA.own (link_true hl).2 he] at hl
 cases hl
theorem rinv_step {lk:List Rt} (hlk:lk=toPl pl (routesR ts L)) {T1:List Nat}{x:WSt × List Nat} (h:RInv ts L ds ns pl lk T1 x) {t:Nat}{z:Dl} (hz:EqAt ts L ds ns t z) (hT:∀ b,markAll ds ns 0 ds noM t b=true→b∈T1) :
  RInv ts L ds ns pl lk (T1 ++ [t]) (wStep ts L ds pl lk x t):=by
 unfold wStep
 have hdl:=dlOf_at hz.zat
 by_cases hp:((plAt ds (t:Int):Nat):Int)=pl
 ·rw [if_pos hp]
  have hp':((placeD ts z:Nat):Int)=pl:=by rw [← hz.place];exact hp
  have hlen:lenOf ts pl (dlOf L t)=z.t.len:=by unfold lenOf;rw [hdl,if_pos ⟨hz.kind,hp'⟩]
  have hfby:fbyOf ts pl (dlOf L t)=fbyT ts (z.i+5) z.t.len:=by unfold fbyOf;rw [hdl,if_pos ⟨hz.kind,hp'⟩]
  obtain ⟨y,hy⟩:∃ y,y=wTurn ts L ds pl lk x t:=⟨_,rfl⟩
  have hy':y=wExpr ⟨ts,ds,pl,lk,x.2⟩ z.t (z.i+5) 0 (rootAt ds (t:Int)) x.1:=by rw [hy];unfold wTurn;rw [hdl]
  rw [← hy]
  have hle:=wle_expr ⟨ts,ds,pl,lk,x.2⟩ z.t (z.i+5) 0 (rootAt ds (t:Int)) x.1 hz.sp
  have hpre:=pre_expr ⟨ts,ds,pl,lk,x.2⟩ z.t (z.i+5) 0 (rootAt ds (t:Int)) x.1
  rw [← hy'] at hle hpre
  have hused:∀ j∈nms ts z.t (z.i+5),UsedAt ts L pl j:=fun j hj=>⟨z,hz.mem,hp',hj⟩
  have hok:∀ nc,y.1.cells.length≤nc→y.2<y.1.ops.length∧OpsOk nc y.1:=fun nc hnc=>by
   have:=wx_ok (E:=⟨ts,ds,pl,lk,x.2⟩) W.H.F (nc:=nc) z.t (z.i+5) 0 (rootAt ds (t:Int)) x.1 hz.sp (own_top W hz hT h.top) (fun j hj=>own_late W hlk x.2 (hused j hj)) (by rw [← hy'];exact hnc) (h.ok nc (by have:=hpre.len;omega))
   rw [← hy'] at this
   exact this
  obtain ⟨w,hw⟩:=hz.wr
  refine ⟨by rw [List.length_set];exact h.len,by have h1:=hle.same;have h2:=h.sm;show y.1.cells.length=y.1.later.length;omega,?_,fun nc hnc=>(hok nc hnc).2,?_,?_,?_⟩
  ·intro u hu hpu
   show (x.2.set t y.2).getD u 0<y.1.ops.length
   rw [rsSet _ _ _ _ (by rw [h.len];exact hz.lt)]
   by_cases e:u=t
   ·rw [if_pos e];exact (hok _ (Nat.le_refl _)).1
   ·rw [if_neg e]
    have hu':u∈T1:=by
     rcases List.mem_append.1 hu with h1 | h1
     ·exact h1
     ·exact absurd (List.mem_singleton.1 h1) e
    exact Nat.lt_of_lt_of_le (h.top u hu' hpu) hpre.len.1
  ·have:=wx_later (rs:=x.2) (lk:=lk) (ds:=ds) (ns:=ns) (pl:=pl) z.t (z.i+5) 0 (rootAt ds (t:Int)) w x.1 hz.sp hz.len hw hused hz.nd h.lt
   rw [← hy'] at this
   exact this
  ·rw [List.map_append,List.sum_append]
   simp only [List.map_cons,List.map_nil,List.sum_cons,List.sum_nil]
   rw [hlen]
   have:=hle.ops;have:=h.bo
   show y.1.ops.length+lw y.1.later≤_
   omega
  ·rw [List.map_append,List.sum_append]
   simp only [List.map_cons,List.map_nil,List.sum_cons,List.sum_nil]
   rw [hfby]
   have:=h.bc
   show y.1.cells.length+lf ts y.1.later≤_
   have h1:y.1.cells.length+lf ts y.1.later≤x.1.cells.length+lf ts x.1.later+fbyT ts (z.i+5) z.t.len:=hle.cells
   omega
 ·rw [if_neg hp]
  refine ⟨h.len,h.sm,?_,h.ok,h.lt,?_,?_⟩
  ·intro u hu hpu
   rcases List.mem_append.1 hu with h1 | h1
   ·exact h.top u h1 hpu
   ·rw [List.mem_singleton.1 h1] at hpu;exact absurd hpu hp
  ·rw [List.map_append,List.sum_append];have:=h.bo;omega
  ·rw [List.map_append,List.sum_append];have:=h.bc;omega
end
theorem rinv_start (ts:List Tk) (L:List Dl) (ds:List Dc) (ns:List Nd) (pl:Int) (lk:List Rt):RInv ts L ds ns pl lk [] (⟨[],[],[]⟩,List.replicate ds.length 0):=
 ⟨by simp,rfl,fun t ht=>by simp at ht,fun nc _ j o h=>by simp at h,fun l hl=>by simp at hl,by simp [lw],by simp [lf]⟩
def wNext (E:WEnv):Nat→Nat→WSt→List Nat→WSt × List Nat
 | 0,_,s,acc=>(s,acc)
 | f+1,i,s,acc=>
  match s.later[i]? with
  | none=>(s,acc)
  | some l=>wNext E f (i+1) (wExpr E l.t l.i l.dl l.o s).1 (acc ++ [(wExpr E l.t l.i l.dl l.o s).2])
theorem pre_next (E:WEnv):∀ (f i:Nat) (s:WSt) (acc:List Nat),Pre s (wNext E f i s acc).1:=by
 intro f
 induction f with
 | zero=>intro i s acc;exact Pre.refl _
 | succ f ih=>
  intro i s acc
  simp only [wNext]
  cases hl:s.later[i]? with
  | none=>exact Pre.refl _
  | some l=>exact (pre_expr E _ _ _ _ _).trans (ih _ _ _)
theorem late_no {E:WEnv} (hF:∀ i,TkF (tkAt E.ts i)) {V:List UInt8→Nat→Int}{I K:Nat→List Int}{t:Ast}{m:Nat} (hm:Sp E.ts t m) (hne:lAt E.ts (m - 1)≠kFby) (hn:∀ j∈nms E.ts t m,NmA E V I K j):lateB E t m=false:=by
 cases t <;> try rfl
 cases hx:lateB E .leaf m with
 | false=>rfl
 | true=>
  have h2:=(late_leaf hx).2
  have hk:=(leaf_kind hF E rfl (i:=m) (dl:=0) hm.1).1 (link_true h2).1
  have:=(hn m (by simp only [nms];rw [if_pos hk];simp)).prm hne
  rw [this] at h2;cases h2
theorem lw_drop {l:List Lt}{i:Nat}{x:Lt} (h:l[i]? = some x):lw (l.drop i)=x.t.len+lw (l.drop (i+1)):=by
 obtain ⟨h1,h2⟩:=List.getElem?_eq_some_iff.1 h
 rw [List.drop_eq_getElem_cons h1,h2]
 simp [lw]
theorem lf_drop {ts:List Tk}{l:List Lt}{i:Nat}{x:Lt} (h:l[i]? = some x):lf ts (l.drop i)=fbyT ts x.i x.t.len+lf ts (l.drop (i+1)):=by
 obtain ⟨h1,h2⟩:=List.getElem?_eq_some_iff.1 h
 rw [List.drop_eq_getElem_cons h1,h2]
 simp [lf]
theorem lw_take (l:List Lt) (i:Nat):lw l=lw (l.take i)+lw (l.drop i):=by rw [← lw_app,List.take_append_drop]
theorem lf_take (ts:List Tk) (l:List Lt) (i:Nat):lf ts l=lf ts (l.take i)+lf ts (l.drop i):=by rw [← lf_app,List.take_append_drop]
structure NxInv (ts:List Tk) (L:List Dl) (ds:List Dc) (ns:List Nd) (pl:Int) (lk:List Rt) (BO BC:Nat) (i:Nat) (s:WSt) (acc:List Nat):Prop where
 sm:s.cells.length=s.later.length
 ok:∀ nc,s.cells.length≤nc→OpsOk nc s
 lt:∀ l∈s.later,LtOk ts L ds ns pl lk l
 al:acc.length=i
 le:i≤s.later.length
 ar:∀ r∈acc,r<s.ops.length
 bo:s.ops.length+lw (s.later.drop i)≤BO
 bc:s.cells.length+lf ts (s.later.drop i)≤BC
section
variable {ts:List Tk} {L:List Dl} {ds:List Dc} {ns:List Nd} {pl:Int} (W:WKnow ts L ds ns)
include W
theorem own_all {rs:List Nat}{top:Nat}{lk:List Rt} (hT:∀ (a:Nat) (d:Dc),ds[a]? = some d→d.kind≠0→((plAt ds (a:Int):Nat):Int)=pl→rs.getD a 0<top) {j:Nat} (hu:UsedAt ts L pl j):OwnT ⟨ts,ds,pl,lk,rs⟩ top j:=by
 intro hk hp
 obtain ⟨x,hx,_,hj⟩:=hu
 have hjl:=nms_lt x.t _ j hj
 have hnm:=nms_nm x.t _ j hj
 have hxl:=(W.H.sp x hx).2
 obtain ⟨b,y,hD⟩:=nm_decl W.H W.hds W.hB (by omega) hnm
 have hk1:(tkAt ts j).kind=1:=by unfold isNm at hnm;simpa using hnm
 obtain ⟨_,kd⟩:=leafB_name W.H.F (ds:=ds) (pl:=pl) (lk:=lk) (rs:=rs) (j:=j) (dl:=0) hk1
 rw [hD.find] at kd
 rw [kd] at hk hp ⊢
 refine hT b _ (List.getElem?_eq_getElem hD.lt) (fun e=>hk ?_) hp
 unfold kindAt
 rw [Int.toNat_natCast,List.getD_eq_getElem?_getD,List.getElem?_eq_getElem hD.lt]
 exact e
theorem ninv_step {lk:List Rt} (hlk:lk=toPl pl (routesR ts L)) {rs:List Nat}{BO BC i:Nat}{s:WSt}{acc:List Nat} (h:NxInv ts L ds ns pl lk BO BC i s acc)
  (hT:∀ (a:Nat) (d:Dc),ds[a]? = some d→d.kind≠0→((plAt ds (a:Int):Nat):Int)=pl→rs.getD a 0<s.ops.length) {l:Lt} (hl:s.later[i]? = some l) :
  NxInv ts L ds ns pl lk BO BC (i+1) (wExpr ⟨ts,ds,pl,lk,rs⟩ l.t l.i l.dl l.o s).1 (acc ++ [(wExpr ⟨ts,ds,pl,lk,rs⟩ l.t l.i l.dl l.o s).2]):=by
 have hL:=h.lt l (List.mem_of_getElem? hl)
 obtain ⟨y,hy⟩:∃ y,y=wExpr ⟨ts,ds,pl,lk,rs⟩ l.t l.i l.dl l.o s:=⟨_,rfl⟩
 have hle:=wle_expr ⟨ts,ds,pl,lk,rs⟩ l.t l.i l.dl l.o s hL.sp
 have hpre:=pre_expr ⟨ts,ds,pl,lk,rs⟩ l.t l.i l.dl l.o s
 rw [← hy] at hle hpre ⊢
 have hok:∀ nc,y.1.cells.length≤nc→y.2<y.1.ops.length∧OpsOk nc y.1:=fun nc hnc=>by
  have:=wx_ok (E:=⟨ts,ds,pl,lk,rs⟩) W.H.F (nc:=nc) l.t l.i l.dl l.o s hL.sp (fun j hj=>own_all W hT (hL.nm j (und_nms ts _ _ j hj))) (fun j hj=>own_late W hlk rs (hL.nm j hj)) (by rw [← hy];exact hnc) (h.ok nc (by have:=hpre.len;omega))
  rw [← hy] at this
  exact this
 obtain ⟨w,hw⟩:=hL.wr
 have hil:=(List.getElem?_eq_some_iff.1 hl).1
 have hle1:y.1.ops.length+lw y.1.later≤s.ops.length+lw s.later+l.t.len:=hle.ops
 have hle2:y.1.cells.length+lf ts y.1.later≤s.cells.length+lf ts s.later+fbyT ts l.i l.t.len:=hle.cells
 obtain ⟨o,c,m,hm⟩:=hpre
 have hmo:y.1.ops=s.ops ++ o:=by rw [hm]
 have hml:y.1.later=s.later ++ m:=by rw [hm]
 have e1:=lw_drop hl
 have e2:=lf_drop (ts:=ts) hl
 have e3:=lw_take s.later (i+1)
 have e4:=lf_take ts s.later (i+1)
 have e5:lw (s.later.take (i+1))+lw (s.later.drop (i+1))=lw (s.later.take i)+lw (s.later.drop i):=by rw [← lw_take,← lw_take]
 have e6:lf ts (s.later.take (i+1))+lf ts (s.later.drop (i+1))=lf ts (s.later.take i)+lf ts (s.later.drop i):=by rw [← lf_take,← lf_take]
 have hbo:=h.bo
 have hbc:=h.bc
 refine ⟨by have h1:=hle.same;have h2:=h.sm;omega,fun nc hnc=>(hok nc hnc).2,?_,by rw [List.length_append,h.al];rfl,by rw [hml,List.length_append];omega,?_,?_,?_⟩
 ·have:=wx_later (rs:=rs) (lk:=lk) (ds:=ds) (ns:=ns) (pl:=pl) l.t l.i l.dl l.o w s hL.sp hL.len hw hL.nm hL.nd h.lt
  rw [← hy] at this
  exact this
 ·intro r hr
  rcases List.mem_append.1 hr with h1 | h1
  ·have:=h.ar r h1;rw [hmo,List.length_append];omega
  ·rw [List.mem_singleton.1 h1];exact (hok _ (Nat.le_refl _)).1
 ·rw [hml,lw_app] at hle1
  rw [hml,List.drop_append_of_le_length (by omega),lw_app]
  omega
 ·rw [hml,lf_app] at hle2
  rw [hml,List.drop_append_of_le_length (by omega),lf_app]
  omega
theorem next_inv {lk:List Rt} (hlk:lk=toPl pl (routesR ts L)) {rs:List Nat}{BO BC:Nat}:∀ (f i:Nat) (s:WSt) (acc:List Nat),lw (s.later.drop i)<f→NxInv ts L ds ns pl lk BO BC i s acc→
  (∀ (a:Nat) (d:Dc),ds[a]? = some d→d.kind≠0→((plAt ds (a:Int):Nat):Int)=pl→rs.getD a 0<s.ops.length)→
  NxInv ts L ds ns pl lk BO BC (wNext ⟨ts,ds,pl,lk,rs⟩ f i s acc).1.later.length (wNext ⟨ts,ds,pl,lk,rs⟩ f i s acc).1 (wNext ⟨ts,ds,pl,lk,rs⟩ f i s acc).2∧Pre s (wNext ⟨ts,ds,pl,lk,rs⟩ f i s acc).1∧∃ x,(wNext ⟨ts,ds,pl,lk,rs⟩ f i s acc).2=acc ++ x:=by
 intro f
 induction f with
 | zero=>intro i s acc h;omega
 | succ f ih=>
  intro i s acc hf hN hT
  simp only [wNext]
  cases hl:s.later[i]? with
  | none=>
   have hi:s.later.length≤i:=List.getElem?_eq_none_iff.1 hl
   have:i=s.later.length:=by have:=hN.le;omega
   simp only
   rw [← this]
   exact ⟨hN,Pre.refl _,[],by simp⟩
  | some l=>
   simp only
   have h1:=ninv_step W hlk hN hT hl
   have hpre:=pre_expr ⟨ts,ds,pl,lk,rs⟩ l.t l.i l.dl l.o s
   obtain ⟨y,hy⟩:∃ y,y=wExpr ⟨ts,ds,pl,lk,rs⟩ l.t l.i l.dl l.o s:=⟨_,rfl⟩
   have hL:=hN.lt l (List.mem_of_getElem? hl)
   have hle:=wle_expr ⟨ts,ds,pl,lk,rs⟩ l.t l.i l.dl l.o s hL.sp
   have hgrow:∀ r:WSt × Nat,r=wExpr ⟨ts,ds,pl,lk,rs⟩ l.t l.i l.dl l.o s→lw (r.1.later.drop (i+1))<f:=fun r hr=>by
    rw [← hr] at hpre
    have hs:=wx_gain ⟨ts,ds,pl,lk,rs⟩ l.t l.i l.dl l.o s
    rw [← hr] at hs
    obtain ⟨o,c,m,hm⟩:=hpre
    have hml:r.1.later=s.later ++ m:=by rw [hm]
    have hil:=(List.getElem?_eq_some_iff.1 hl).1
    rw [hml,List.drop_append_of_le_length (by omega),lw_app]
    rw [hml,lw_app] at hs
    have:=lw_drop hl
    omega
   have hg:=hgrow _ rfl
   obtain ⟨g1,g2,x,g3⟩:=ih (i+1) _ _ hg h1 (fun a d h2 h3 h4=>Nat.lt_of_lt_of_le (hT a d h2 h3 h4) hpre.len.1)
   exact ⟨g1,hpre.trans g2,_,by rw [g3,List.append_assoc]⟩
end
section
variable {ts:List Tk} {L:List Dl} {ds:List Dc} {ns:List Nd} {pl:Int} (W:WKnow ts L ds ns) {lk:List Rt} (hlk:lk=toPl pl (routesR ts L)) (ins:List (List Int)) (junk:Int) {F:WSt} {C:Nat→List Int}
 (hS:Sem ⟨ts,ds,pl,lk,[]⟩ F (valV ts L ins (sol ts L ins)) C)
abbrev SolV (ts:List Tk) (L:List Dl) (ins:List (List Int)):List UInt8→Nat→Int:=valV ts L ins (sol ts L ins)
abbrev GivK (ts:List Tk) (L:List Dl) (ins:List (List Int)) (pl junk:Int):Nat→List Int:=fun k=>givenR ts L (sol ts L ins) pl k junk
def VInv (ts:List Tk) (L:List Dl) (ds:List Dc) (pl junk:Int) (ins:List (List Int)) (F:WSt) (C:Nat→List Int) (P:Nat→Prop) (rs:List Nat):Prop:=
 ∀ t,P t→((plAt ds (t:Int):Nat):Int)=pl→∀ k,atF (RgK F (nowL L ins) (GivK ts L ins pl junk) C k) ((rs.getD t 0:Nat):Int)=sol ts L ins (numAt ds (t:Int)) k
include W
theorem used_A (hlk:lk=toPl pl (routesR ts L)) (rs:List Nat) {j:Nat} (hu:UsedAt ts L pl j):NmA ⟨ts,ds,pl,lk,rs⟩ (SolV ts L ins) (nowL L ins) (GivK ts L ins pl junk) j:=by
 subst hlk
 obtain ⟨x,hx,hp,hj⟩:=hu
 exact nm_ok W.H W.hds W.hB W.p4 ins junk pl rs hx hp hj
theorem own_val {P:Nat→Prop}{rs:List Nat} (hv:VInv ts L ds pl junk ins F C P rs) {j:Nat} (hjl:j<ts.length) (hnm:isNm ts j=true) (hP:∀ b y,NmD ts L ds j b y→y.kind≠0→P b) :
  OwnW ⟨ts,ds,pl,lk,rs⟩ F (SolV ts L ins) (nowL L ins) (GivK ts L ins pl junk) C j:=by
 intro hk hp k
 obtain ⟨b,y,hD⟩:=nm_decl W.H W.hds W.hB hjl hnm
 have hk1:(tkAt ts j).kind=1:=by unfold isNm at hnm;simpa using hnm
 obtain ⟨_,kd⟩:=leafB_name W.H.F (ds:=ds) (pl:=pl) (lk:=lk) (rs:=rs) (j:=j) (dl:=0) hk1
 rw [hD.find] at kd
 rw [kd] at hk hp ⊢
 have hk':y.kind≠0:=by rw [← hD.kind];exact hk
 rw [Int.toNat_natCast]
 show atF _ ((rs.getD b 0:Nat):Int)=SolV ts L ins (lAt ts j) k
 rw [hv b (hP b y hD hk') hp k]
 unfold SolV
 rw [← hD.name,val_eq W.H (hD.eqn hk')]
theorem bits:∀ k n,k<ts.length→nameT ts L k=true→Bit (SolV ts L ins (lAt ts k) n):=val_bit W.H (fun j n x hx hk=>sol_bit W.H W.hT j n x hx hk)
include hlk hS
theorem vinv_step {T1:List Nat}{x:WSt × List Nat} (h:RInv ts L ds ns pl lk T1 x) (hv:VInv ts L ds pl junk ins F C (·∈T1) x.2) {t:Nat}{z:Dl} (hz:EqAt ts L ds ns t z) (hT:∀ b,markAll ds ns 0 ds noM t b=true→b∈T1) (hpre:Pre (wStep ts L ds pl lk x t).1 F) :
  VInv ts L ds pl junk ins F C (·∈T1 ++ [t]) (wStep ts L ds pl lk x t).2:=by
 have hdl:=dlOf_at hz.zat
 unfold wStep at hpre ⊢
 by_cases hp:((plAt ds (t:Int):Nat):Int)=pl
 ·rw [if_pos hp] at hpre ⊢
  have hp':((placeD ts z:Nat):Int)=pl:=by rw [← hz.place];exact hp
  obtain ⟨y,hy⟩:∃ y,y=wTurn ts L ds pl lk x t:=⟨_,rfl⟩
  have hy':y=wExpr ⟨ts,ds,pl,lk,x.2⟩ z.t (z.i+5) 0 (rootAt ds (t:Int)) x.1:=by rw [hy];unfold wTurn;rw [hdl]
  rw [← hy] at hpre ⊢
  have hA:∀ j∈nms ts z.t (z.i+5),NmA ⟨ts,ds,pl,lk,x.2⟩ (SolV ts L ins) (nowL L ins) (GivK ts L ins pl junk) j:=fun j hj=>used_A W ins junk hlk x.2 ⟨z,hz.mem,hp',hj⟩
  have hOw:∀ j∈und ts z.t (z.i+5),OwnW ⟨ts,ds,pl,lk,x.2⟩ F (SolV ts L ins) (nowL L ins) (GivK ts L ins pl junk) C j:=fun j hj=>by
   have hjn:=und_nms ts _ _ j hj
   have hjl:=nms_lt z.t _ j hjn
   have hzl:=hz.len
   exact own_val W ins junk hv (by omega) (nms_nm z.t _ j hjn) (fun b y hD hk=>hT b (und_hang W hz hj hD hk))
  obtain ⟨w,hw⟩:=hz.wr
  have hlt:lateB ⟨ts,ds,pl,lk,x.2⟩ z.t (z.i+5)=false:=late_no (E:=⟨ts,ds,pl,lk,x.2⟩) W.H.F hz.sp (by show lAt ts (z.i+5 - 1)≠kFby;rw [show z.i+5 - 1=z.i+4 by omega,W.eqs z hz.mem];decide) hA
  have key:=wx_val (E:=⟨ts,ds,pl,lk,x.2⟩) (L:=L) (F:=F) (V:=SolV ts L ins) (I:=nowL L ins) (K:=GivK ts L ins pl junk) (C:=C) W.H.F (bits W ins) ⟨hS.ok,hS.c0,hS.cS⟩ z.t (z.i+5) 0 (rootAt ds (t:Int)) w x.1 hz.sp hz.len hw hA hOw hlt h.sm (by rw [← hy'];exact hpre)
  rw [← hy'] at key
  intro u hu hpu k
  show atF _ (((x.2.set t y.2).getD u 0:Nat):Int)=_
  rw [rsSet _ _ _ _ (by rw [h.len];exact hz.lt)]
  by_cases e:u=t
  ·rw [if_pos e,key k,e]
   obtain ⟨h1,h2⟩:=List.getElem?_eq_some_iff.1 hz.num
   rw [sol_eq W.H.toEqs _ k h1,h2]
  ·rw [if_neg e]
   refine hv u ?_ hpu k
   rcases List.mem_append.1 hu with h1 | h1
   ·exact h1
   ·exact absurd (List.mem_singleton.1 h1) e
 ·rw [if_neg hp] at hpre ⊢
  intro u hu hpu k
  rcases List.mem_append.1 hu with h1 | h1
  ·exact hv u h1 hpu k
  ·rw [List.mem_singleton.1 h1] at hpu;exact absurd hpu hp
theorem next_val {rs:List Nat}{BO BC:Nat} (hv:VInv ts L ds pl junk ins F C (fun a=>∃ d,ds[a]? = some d∧d.kind≠0) rs):∀ (f i:Nat) (s:WSt) (acc:List Nat),NxInv ts L ds ns pl lk BO BC i s acc→
  (∀ (a:Nat) (d:Dc),ds[a]? = some d→d.kind≠0→((plAt ds (a:Int):Nat):Int)=pl→rs.getD a 0<s.ops.length)→
  (∀ (c r:Nat) (l:Lt),acc[c]? = some r→s.later[c]? = some l→∀ k,atF (RgK F (nowL L ins) (GivK ts L ins pl junk) C k) (r:Int)=evT ts (SolV ts L ins) l.t l.i k)→
  Pre (wNext ⟨ts,ds,pl,lk,rs⟩ f i s acc).1 F→
  ∀ (c r:Nat) (l:Lt),(wNext ⟨ts,ds,pl,lk,rs⟩ f i s acc).2[c]? = some r→(wNext ⟨ts,ds,pl,lk,rs⟩ f i s acc).1.later[c]? = some l→∀ k,atF (RgK F (nowL L ins) (GivK ts L ins pl junk) C k) (r:Int)=evT ts (SolV ts L ins) l.t l.i k:=by
 intro f
 induction f with
 | zero=>intro i s acc _ _ h _;exact h
 | succ f ih=>
  intro i s acc hN hT h hp
  simp only [wNext] at hp ⊢
  cases hl:s.later[i]? with
  | none=>simp only [hl] at hp ⊢;exact h
  | some l=>
   simp only [hl] at hp ⊢
   have hL:=hN.lt l (List.mem_of_getElem? hl)
   have hpre:=pre_expr ⟨ts,ds,pl,lk,rs⟩ l.t l.i l.dl l.o s
   have h1:=ninv_step W hlk hN hT hl
   refine ih (i+1) _ _ h1 (fun a d h2 h3 h4=>Nat.lt_of_lt_of_le (hT a d h2 h3 h4) hpre.len.1) ?_ hp
   have hpF:Pre (wExpr ⟨ts,ds,pl,lk,rs⟩ l.t l.i l.dl l.o s).1 F:=Pre.trans (pre_next _ f _ _ _) hp
   have hA:∀ j∈nms ts l.t l.i,NmA ⟨ts,ds,pl,lk,rs⟩ (SolV ts L ins) (nowL L ins) (GivK ts L ins pl junk) j:=fun j hj=>used_A W ins junk hlk rs (hL.nm j hj)
   have hOw:∀ j∈und ts l.t l.i,OwnW ⟨ts,ds,pl,lk,rs⟩ F (SolV ts L ins) (nowL L ins) (GivK ts L ins pl junk) C j:=fun j hj=>by
    have hjn:=und_nms ts _ _ j hj
    have hjl:=nms_lt l.t _ j hjn
    have hzl:=hL.len
    refine own_val W ins junk hv (by omega) (nms_nm l.t _ j hjn) (fun b y hD hk=>⟨_,List.getElem?_eq_getElem hD.lt,fun e=>hk ?_⟩)
    rw [← hD.kind]
    unfold kindAt
    rw [Int.toNat_natCast,List.getD_eq_getElem?_getD,List.getElem?_eq_getElem hD.lt]
    exact e
   obtain ⟨w,hw⟩:=hL.wr
   have key:=wx_val (E:=⟨ts,ds,pl,lk,rs⟩) (L:=L) (F:=F) (V:=SolV ts L ins) (I:=nowL L ins) (K:=GivK ts L ins pl junk) (C:=C) W.H.F (bits W ins) ⟨hS.ok,hS.c0,hS.cS⟩ l.t l.i l.dl l.o w s hL.sp hL.len hw hA hOw (by rw [lateB_rs ts ds pl lk rs []];exact hL.lt) hN.sm hpF
   intro c r m hc hm k
   by_cases hci:c<acc.length
   ·rw [List.getElem?_append_left hci] at hc
    have hcl:c<s.later.length:=by have:=hN.al;have:=hN.le;omega
    have hm':s.later[c]? = some m:=by
     have:=hpre.lat (List.getElem?_eq_getElem hcl)
     rw [this] at hm
     rw [List.getElem?_eq_getElem hcl];exact hm
    exact h c r m hc hm' k
   ·have hc0:c=i:=by
     have h5:=(List.getElem?_eq_some_iff.1 hc).1
     have h6:=hN.al
     rw [List.length_append,List.length_singleton] at h5
     omega
    subst hc0
    rw [List.getElem?_append_right (by omega),hN.al,Nat.sub_self] at hc
    have er:(wExpr ⟨ts,ds,pl,lk,rs⟩ l.t l.i l.dl l.o s).2=r:=by simpa using hc
    rw [hpre.lat hl] at hm
    cases hm
    rw [← er];exact key k
end
def outP (pl:Int):Nat→List Dc→List (Nat × Nat)
 | _,[]=>[]
 | a,d :: r=>if d.kind≠0∧((d.place:Nat):Int)=pl then (a,d.number) :: outP pl (a+1) r else outP pl (a+1) r
theorem outP_mem {pl:Int}:∀ (ds:List Dc) (a:Nat) (p:Nat × Nat),p∈outP pl a ds→∃ d,ds[p.1 - a]? = some d∧a≤p.1∧d.kind≠0∧((d.place:Nat):Int)=pl∧d.number=p.2:=by
 intro ds
 induction ds with
 | nil=>intro a p h;simp [outP] at h
 | cons d r ih=>
  intro a p h
  simp only [outP] at h
  have tl:p∈outP pl (a+1) r→∃ d',(d :: r)[p.1 - a]? = some d'∧a≤p.1∧d'.kind≠0∧((d'.place:Nat):Int)=pl∧d'.number=p.2:=fun h=>by
   obtain ⟨e,h1,h2,h3⟩:=ih _ _ h
   refine ⟨e,?_,by omega,h3⟩
   rw [show p.1 - a=(p.1 - (a+1))+1 by omega,List.getElem?_cons_succ];exact h1
  by_cases hc:d.kind≠0∧((d.place:Nat):Int)=pl
  ·rw [if_pos hc] at h
   rcases List.mem_cons.1 h with rfl | h
   ·exact ⟨d,by simp,Nat.le_refl _,hc.1,hc.2,rfl⟩
   ·exact tl h
  ·rw [if_neg hc] at h;exact tl h
def atFrom (ts:List Tk) (pl:Int):Nat→List Dl→List Nat
 | _,[]=>[]
 | b,x :: r=>if ((placeD ts x:Nat):Int)=pl then b :: atFrom ts pl (b+1) r else atFrom ts pl (b+1) r
theorem atFrom_eq (ts:List Tk) (pl:Int):∀ (l:List Dl) (b:Nat),(List.range' b l.length).filter (fun i=>((l[i - b]?).map fun x=>((placeD ts x:Nat):Int) == pl) == some true)=atFrom ts pl b l:=by
 intro l
 induction l with
 | nil=>intro b;rfl
 | cons x r ih=>
  intro b
  rw [List.length_cons,List.range'_succ,List.filter_cons]
  have e:(List.range' (b+1) r.length).filter (fun i=>(((x :: r)[i - b]?).map fun x=>((placeD ts x:Nat):Int) == pl) == some true)=atFrom ts pl (b+1) r:=by
   rw [← ih (b+1)]
   refine List.filter_congr (fun i hi=>?_)
   have:=(List.mem_range'_1.1 hi).1
   rw [show i - b=(i - (b+1))+1 by omega,List.getElem?_cons_succ]
  rw [e]
  simp only [atFrom,Nat.sub_self,List.getElem?_cons_zero,Option.map_some]
  by_cases hp:((placeD ts x:Nat):Int)=pl
  ·rw [if_pos hp,if_pos (by simp [hp])]
  ·rw [if_neg hp,if_neg (by simp [hp])]
theorem atR_eq (ts:List Tk) (L:List Dl) (pl:Int):atR ts L pl=atFrom ts pl 0 (eqL L):=by
 rw [← atFrom_eq,← List.range_eq_range'];rfl
theorem outP_at (ts:List Tk) (pl:Int):∀ (L:List Dl) (off a b k:Nat),(outP pl k (declsD ts L off a b)).map Prod.snd=atFrom ts pl b (eqL L):=by
 intro L
 induction L with
 | nil=>intro off a b k;rfl
 | cons x r ih=>
  intro off a b k
  simp only [declsD]
  by_cases hx:x.kind=0
  ·rw [if_pos hx]
   have e:eqL (x :: r)=eqL r:=by simp [eqL,hx]
   rw [e,← ih off (a+1) b (k+1)]
   simp only [outP]
   rw [if_neg (show ¬ ((dcIn ts x a).kind≠0∧(((dcIn ts x a).place:Nat):Int)=pl) from fun h=>h.1 rfl)]
  ·rw [if_neg hx]
   have e:eqL (x :: r)=x :: eqL r:=by simp [eqL,hx]
   rw [e]
   simp only [outP,atFrom]
   by_cases hp:((placeD ts x:Nat):Int)=pl
   ·rw [if_pos (show (dcEq ts x b off).kind≠0∧(((dcEq ts x b off).place:Nat):Int)=pl from ⟨hx,hp⟩),if_pos hp,List.map_cons,ih];rfl
   ·rw [if_neg (show ¬ ((dcEq ts x b off).kind≠0∧(((dcEq ts x b off).place:Nat):Int)=pl) from fun h=>hp h.2),if_neg hp,ih]
theorem sum_nodup (f:Nat→Nat):∀ (n:Nat) (T:List Nat),T.Nodup→(∀ t∈T,t<n)→(T.map f).sum≤((List.range n).map f).sum:=by
 intro n
 induction n with
 | zero=>
  intro T _ h
  cases T with
  | nil=>simp
  | cons t r=>have:=h t (by simp);omega
 | succ n ih=>
  intro T hn h
  rw [List.range_succ,List.map_append,List.sum_append]
  simp only [List.map_cons,List.map_nil,List.sum_cons,List.sum_nil]
  by_cases hm:n∈T
  ·have h1:(T.map f).sum=f n+((T.erase n).map f).sum:=by
    have:=(List.perm_cons_erase hm).map f
    have:=this.sum_nat
    rw [this];simp
   have h2:=ih (T.erase n) (hn.erase n) (fun t ht=>by
    have h3:=h t (List.mem_of_mem_erase ht)
    have h4:t≠n:=fun e=>by subst e;exact (List.Nodup.not_mem_erase hn) ht
    omega)
   omega
  ·have:=ih T hn (fun t ht=>by
    have h3:=h t ht
    have:t≠n:=fun e=>hm (by rw [← e];exact ht)
    omega)
   omega
theorem sum_dl (g:Dl→Nat) (L:List Dl):((List.range L.length).map fun t=>g (dlOf L t))=L.map g:=by
 apply List.ext_getElem
 ·simp
 ·intro i h1 h2
  rw [List.getElem_map,List.getElem_map,List.getElem_range,dlOf_at (List.getElem?_eq_getElem (by simpa using h2))]
theorem spell_sum {ts:List Tk}:∀ (L:List Dl) (i:Nat),Spell ts L i→i+(L.map Dl.len).sum<ts.length:=by
 intro L
 induction L with
 | nil=>intro i h;simpa using h.1
 | cons x r ih=>
  intro i h
  obtain ⟨_,_,_,h4⟩:=h
  have:=ih _ h4
  simp only [List.map_cons,List.sum_cons]
  omega
theorem len_sum (ts:List Tk) (pl:Int):∀ (L:List Dl),(L.map (lenOf ts pl)).sum≤(L.map Dl.len).sum:=by
 intro L
 induction L with
 | nil=>simp
 | cons x r ih=>
  simp only [List.map_cons,List.sum_cons]
  have:lenOf ts pl x≤x.len:=by
   unfold lenOf Dl.len
   split
   ·rename_i h;rw [if_neg h.1];omega
   ·omega
  omega
theorem fby_sum (ts:List Tk) (pl:Int):∀ (L:List Dl),(L.map (fbyOf ts pl)).sum=dlyG ts pl (eqL L):=by
 intro L
 induction L with
 | nil=>rfl
 | cons x r ih=>
  simp only [List.map_cons,List.sum_cons]
  rw [ih]
  by_cases hx:x.kind=0
  ·have e:eqL (x :: r)=eqL r:=by simp [eqL,hx]
   rw [e]
   unfold fbyOf;rw [if_neg (fun h=>h.1 hx)];omega
  ·have e:eqL (x :: r)=x :: eqL r:=by simp [eqL,hx]
   rw [e]
   simp only [dlyG]
   unfold fbyOf
   by_cases hp:((placeD ts x:Nat):Int)=pl
   ·rw [if_pos ⟨hx,hp⟩,if_pos hp]
   ·rw [if_neg (fun h=>hp h.2),if_neg hp]
theorem fby_len (ts:List Tk) (pl:Int):∀ (L:List Dl),(L.map (fbyOf ts pl)).sum≤(L.map (lenOf ts pl)).sum:=by
 intro L
 induction L with
 | nil=>simp
 | cons x r ih=>
  simp only [List.map_cons,List.sum_cons]
  have:fbyOf ts pl x≤lenOf ts pl x:=by
   unfold fbyOf lenOf
   split
   ·exact fbyT_le _ _ _
   ·omega
  omega
theorem opsOk_of {nc:Nat}:∀ (l:List OpF) (i:Nat),(∀ (j:Nat) (o:OpF),l[j]? = some o→opOk nc (i+j) o=true)→opsOk nc i l=true:=by
 intro l
 induction l with
 | nil=>intro i _;rfl
 | cons o r ih=>
  intro i h
  simp only [opsOk]
  rw [ih (i+1) (fun j x hj=>by have:=h (j+1) x (by simpa using hj);rwa [show i+1+j=i+(j+1) by omega])]
  have:=h 0 o (by simp)
  rw [Nat.add_zero] at this
  rw [this];rfl
def xZero (ds:List Dc):WSt × List Nat:=(⟨[],[],[]⟩,List.replicate ds.length 0)
def rootsW (ts:List Tk) (L:List Dl) (ds:List Dc) (pl:Int) (lk:List Rt) (T:List Nat):WSt × List Nat:=wRoots ts L ds pl lk T (xZero ds)
def nextW (ts:List Tk) (L:List Dl) (ds:List Dc) (pl:Int) (lk:List Rt) (T:List Nat):WSt × List Nat:=wNext ⟨ts,ds,pl,lk,(rootsW ts L ds pl lk T).2⟩ (ts.length+1) 0 (rootsW ts L ds pl lk T).1 []
def codeW (ts:List Tk) (L:List Dl) (ds:List Dc) (pl:Int) (lk:List Rt) (T:List Nat):CdF:=
 ⟨(nextW ts L ds pl lk T).1.ops,(nextW ts L ds pl lk T).1.cells,(nextW ts L ds pl lk T).2.map (fun (r:Nat)=>(r:Int)),(outP pl 0 ds).map fun p=>(((rootsW ts L ds pl lk T).2.getD p.1 0:Nat):Int)⟩
theorem pre_roots (ts:List Tk) (L:List Dl) (ds:List Dc) (pl:Int) (lk:List Rt):∀ (T:List Nat) (x:WSt × List Nat),Pre x.1 (wRoots ts L ds pl lk T x).1:=by
 intro T
 induction T with
 | nil=>intro x;exact Pre.refl _
 | cons t r ih=>
  intro x
  refine Pre.trans ?_ (ih (wStep ts L ds pl lk x t))
  unfold wStep
  split
  ·exact pre_expr _ _ _ _ _ _
  ·exact Pre.refl _
section
variable {ts:List Tk} {L:List Dl} {ds:List Dc} {ns:List Nd} {pl:Int} (W:WKnow ts L ds ns) {lk:List Rt} (hlk:lk=toPl pl (routesR ts L)) {T:List Nat} (hO:OrdOk ds (markAll ds ns 0 ds noM) T)
include W hlk hO
theorem roots_inv:∀ m,m≤T.length→RInv ts L ds ns pl lk (T.take m) (wRoots ts L ds pl lk (T.take m) (xZero ds)):=by
 intro m
 induction m with
 | zero=>intro _;exact rinv_start ts L ds ns pl lk
 | succ m ih=>
  intro hm
  have hl:m<T.length:=by omega
  rw [List.take_succ_eq_append_getElem hl,wRoots_snoc]
  obtain ⟨d,hd,hk⟩:=hO.eqn T[m] (List.getElem_mem hl)
  obtain ⟨z,hz⟩:=eq_at W hd hk
  exact rinv_step W hlk (ih (by omega)) hz (hO.topo m _ (List.getElem?_eq_getElem hl))
theorem roots_val {F:WSt}{C:Nat→List Int} (ins:List (List Int)) (junk:Int) (hS:Sem ⟨ts,ds,pl,lk,[]⟩ F (valV ts L ins (sol ts L ins)) C) (hp:Pre (rootsW ts L ds pl lk T).1 F) :
  ∀ m,m≤T.length→VInv ts L ds pl junk ins F C (·∈T.take m) (wRoots ts L ds pl lk (T.take m) (xZero ds)).2:=by
 intro m
 induction m with
 | zero=>intro _ t ht;simp at ht
 | succ m ih=>
  intro hm
  have hl:m<T.length:=by omega
  have hpm:Pre (wRoots ts L ds pl lk (T.take (m+1)) (xZero ds)).1 F:=by
   refine Pre.trans ?_ hp
   unfold rootsW
   conv=>rhs;rw [← List.take_append_drop (m+1) T]
   unfold wRoots
   rw [List.foldl_append]
   exact pre_roots ts L ds pl lk _ _
  rw [List.take_succ_eq_append_getElem hl,wRoots_snoc] at hpm ⊢
  obtain ⟨d,hd,hk⟩:=hO.eqn T[m] (List.getElem_mem hl)
  obtain ⟨z,hz⟩:=eq_at W hd hk
  exact vinv_step W hlk ins junk hS (roots_inv W hlk hO m (by omega)) (ih (by omega)) hz (hO.topo m _ (List.getElem?_eq_getElem hl)) hpm
theorem roots_all:RInv ts L ds ns pl lk T (rootsW ts L ds pl lk T):=by
 have:=roots_inv W hlk hO T.length (Nat.le_refl _)
 rwa [List.take_length] at this
theorem next_all (hnd:T.Nodup) (hsp:Spell ts L 0):NxInv ts L ds ns pl lk (L.map (lenOf ts pl)).sum (L.map (fbyOf ts pl)).sum (nextW ts L ds pl lk T).1.later.length (nextW ts L ds pl lk T).1 (nextW ts L ds pl lk T).2∧Pre (rootsW ts L ds pl lk T).1 (nextW ts L ds pl lk T).1:=by
 have hR:=roots_all W hlk hO
 have hlL:L.length=ds.length:=W.hB.dx.len
 have hTl:∀ t∈T,t<L.length:=fun t ht=>by
  obtain ⟨d,hd,_⟩:=hO.eqn t ht
  have:=(List.getElem?_eq_some_iff.1 hd).1
  omega
 have s1:=sum_nodup (fun t=>lenOf ts pl (dlOf L t)) L.length T hnd hTl
 have s2:=sum_nodup (fun t=>fbyOf ts pl (dlOf L t)) L.length T hnd hTl
 rw [sum_dl] at s1 s2
 have s3:=spell_sum L 0 hsp
 have s4:=len_sum ts pl L
 have hbo:=hR.bo
 have hbc:=hR.bc
 obtain ⟨g1,g2,_⟩:=next_inv W hlk (rs:=(rootsW ts L ds pl lk T).2) (BO:=(L.map (lenOf ts pl)).sum) (BC:=(L.map (fbyOf ts pl)).sum) (ts.length+1) 0 (rootsW ts L ds pl lk T).1 [] (by rw [List.drop_zero];omega)
  ⟨hR.sm,hR.ok,hR.lt,rfl,Nat.zero_le _,fun r hr=>by simp at hr,by rw [List.drop_zero];omega,by rw [List.drop_zero];omega⟩
  (fun a d h1 h2 h3=>hR.top a (hO.all a d h1 h2) h3)
 exact ⟨g1,g2⟩
theorem code_ok (hnd:T.Nodup) (hsp:Spell ts L 0) {size:Nat} (hsz:ts.length≤size+1) (h15:size≤1500):StepOk ts L pl (codeW ts L ds pl lk T) size:=by
 obtain ⟨hN,hpre⟩:=next_all W hlk hO hnd hsp
 have hR:=roots_all W hlk hO
 have s3:=spell_sum L 0 hsp
 have s4:=len_sum ts pl L
 have s5:=fby_len ts pl L
 have s6:=fby_sum ts pl L
 have hbo:=hN.bo
 have hbc:=hN.bc
 have hal:=hN.al
 have hsm:=hN.sm
 have hat:atR ts L pl=(outP pl 0 ds).map Prod.snd:=by rw [atR_eq,W.hds,outP_at]
 have hel:(atR ts L pl).length≤(eqL L).length:=by
  unfold atR atG
  have:=List.length_filter_le (fun i=>(((eqL L)[i]?).map fun x=>((placeD ts x:Nat):Int) == pl) == some true) (List.range (eqL L).length)
  simpa using this
 have hol:(outP pl 0 ds).length≤12:=by
  have h1:=W.H.few.1
  rw [hat,List.length_map] at hel
  omega
 have hout:∀ p∈outP pl 0 ds,((plAt ds (p.1:Int):Nat):Int)=pl∧numAt ds (p.1:Int)=p.2∧∃ d,ds[p.1]? = some d∧d.kind≠0:=fun p hp=>by
  obtain ⟨d,h1,_,h3,h4,h5⟩:=outP_mem ds 0 p hp
  rw [Nat.sub_zero] at h1
  have hg:ds.getD p.1 ⟨0,0,⟨#[]⟩,0,0,0,0⟩=d:=by rw [List.getD_eq_getElem?_getD,h1];rfl
  unfold plAt numAt
  rw [Int.toNat_natCast,hg]
  exact ⟨h4,h5,d,h1,h3⟩
 obtain ⟨Fin,hF⟩:∃ Fin,Fin=nextW ts L ds pl lk T:=⟨_,rfl⟩
 rw [← hF] at hN hpre hbo hbc hal hsm
 have hform:formedF (codeW ts L ds pl lk T)=true:=by
  unfold formedF codeW
  rw [← hF]
  simp only [List.length_map,Bool.and_eq_true,decide_eq_true_eq,List.all_eq_true,List.mem_map]
  refine ⟨⟨⟨⟨⟨⟨by omega,by omega⟩,by omega⟩,by omega⟩,opsOk_of _ 0 (fun j o hj=>by rw [Nat.zero_add];exact hN.ok _ (Nat.le_refl _) j o hj)⟩,?_⟩,?_⟩
  ·rintro x ⟨r,hr,rfl⟩;exact regOk_nat (hN.ar r hr)
  ·rintro x ⟨p,hp,rfl⟩
   obtain ⟨h1,_,d,h2,h3⟩:=hout p hp
   exact regOk_nat (Nat.lt_of_lt_of_le (hR.top p.1 (hO.all p.1 d h2 h3) h1) hpre.len.1)
 refine ⟨hform,?_,?_,?_,?_⟩
 ·show (nextW ts L ds pl lk T).1.ops.length≤size
  rw [← hF];omega
 ·show ((outP pl 0 ds).map _).length=_
  rw [hat,List.length_map,List.length_map]
 ·show (nextW ts L ds pl lk T).1.cells.length≤delaysR ts L pl
  rw [← hF]
  unfold delaysR
  omega
 ·intro ins junk k i j hij
  -- the cells ahead of each step
  obtain ⟨C,hC⟩:∃ C:Nat→List Int,C=fun k=>match k with | 0=>Fin.1.cells | k+1=>Fin.1.later.map fun l=>evT ts (valV ts L ins (sol ts L ins)) l.t l.i k:=⟨_,rfl⟩
  have hS:Sem ⟨ts,ds,pl,lk,[]⟩ Fin.1 (valV ts L ins (sol ts L ins)) C:=by
   refine ⟨hN.ok _ (Nat.le_refl _),fun c x hx=>?_,fun c l k hl=>?_⟩
   ·rw [hC,atF_nat,List.getD_eq_getElem?_getD]
    show (Fin.1.cells[c]?).getD 0=x
    rw [hx];rfl
   ·rw [hC,atF_nat,List.getD_eq_getElem?_getD]
    show ((Fin.1.later.map _)[c]?).getD 0=_
    rw [List.getElem?_map,hl];rfl
  have hvT:=roots_val W hlk hO ins junk hS hpre T.length (Nat.le_refl _)
  rw [List.take_length] at hvT
  have hv:VInv ts L ds pl junk ins Fin.1 C (fun a=>∃ d,ds[a]? = some d∧d.kind≠0) (rootsW ts L ds pl lk T).2:=fun t ht hp k=>by
   obtain ⟨d,h1,h2⟩:=ht
   exact hvT t (hO.all t d h1 h2) hp k
  have hnv:=next_val W hlk ins junk hS (BO:=(L.map (lenOf ts pl)).sum) (BC:=(L.map (fbyOf ts pl)).sum) hv (ts.length+1) 0 (rootsW ts L ds pl lk T).1 []
   (by
     have hlL:L.length=ds.length:=W.hB.dx.len
     have hTl:∀ t∈T,t<L.length:=fun t ht=>by
       obtain ⟨d,hd,_⟩:=hO.eqn t ht
       have:=(List.getElem?_eq_some_iff.1 hd).1
       omega
     have s1:=sum_nodup (fun t=>lenOf ts pl (dlOf L t)) L.length T hnd hTl
     have s2:=sum_nodup (fun t=>fbyOf ts pl (dlOf L t)) L.length T hnd hTl
     rw [sum_dl] at s1 s2
     have hbo:=hR.bo
     have hbc:=hR.bc
     exact ⟨hR.sm,hR.ok,hR.lt,rfl,Nat.zero_le _,fun r hr=>by simp at hr,by rw [List.drop_zero];omega,by rw [List.drop_zero];omega⟩)
   (fun a d h1 h2 h3=>hR.top a (hO.all a d h1 h2) h3) (fun c r l h=>by simp at h) (by show Pre (nextW ts L ds pl lk T).1 _;rw [← hF];exact Pre.refl _)
  have hnx:∀ (c r:Nat) (l:Lt),Fin.2[c]? = some r→Fin.1.later[c]? = some l→∀ k,atF (RgK Fin.1 (nowL L ins) (GivK ts L ins pl junk) C k) (r:Int)=evT ts (SolV ts L ins) l.t l.i k:=by
   intro c r l h1 h2
   refine hnv c r l ?_ ?_
   ·show (nextW ts L ds pl lk T).2[c]? = some r
    rw [← hF];exact h1
   ·show (nextW ts L ds pl lk T).1.later[c]? = some l
    rw [← hF];exact h2
  have hcl:∀ k,(C k).length=(codeW ts L ds pl lk T).cells.length:=fun k=>by
   show _=(nextW ts L ds pl lk T).1.cells.length
   rw [← hF,hC]
   cases k with
   | zero=>rfl
   | succ k=>show (Fin.1.later.map _).length=_;rw [List.length_map];omega
  have hexec:∀ k:Nat,execF (codeW ts L ds pl lk T) (k:Int) (C k) (nowL L ins k) (GivK ts L ins pl junk k)=(0,(codeW ts L ds pl lk T).out.map (atF (RgK Fin.1 (nowL L ins) (GivK ts L ins pl junk) C k)),(codeW ts L ds pl lk T).next.map (atF (RgK Fin.1 (nowL L ins) (GivK ts L ins pl junk) C k))):=fun k=>by
   unfold execF
   rw [if_neg (by rw [hform];decide),if_neg (by rw [hcl k];omega)]
   have:(codeW ts L ds pl lk T).ops=Fin.1.ops:=by rw [hF];rfl
   unfold RgK
   rw [this]
  have hcs:∀ k,cellsS (codeW ts L ds pl lk T) (nowL L ins) (fun k=>givenR ts L (sol ts L ins) pl k junk) k=C k:=by
   intro k
   induction k with
   | zero=>show (nextW ts L ds pl lk T).1.cells=_;rw [← hF,hC]
   | succ k ih=>
    show (execF (codeW ts L ds pl lk T) (k:Int) (cellsS (codeW ts L ds pl lk T) (nowL L ins) _ k) (nowL L ins k) _).2.2=_
    rw [ih]
    have:=hexec k
    show (execF (codeW ts L ds pl lk T) (k:Int) (C k) (nowL L ins k) (GivK ts L ins pl junk k)).2.2=_
    rw [this]
    show ((nextW ts L ds pl lk T).2.map (fun (r:Nat)=>(r:Int))).map _=_
    rw [← hF]
    rw [show C (k+1)=Fin.1.later.map fun l=>evT ts (valV ts L ins (sol ts L ins)) l.t l.i k by rw [hC]]
    apply List.ext_getElem?
    intro c
    rw [List.map_map,List.getElem?_map,List.getElem?_map]
    by_cases hc:c<Fin.2.length
    ·rw [List.getElem?_eq_getElem hc,List.getElem?_eq_getElem (by omega)]
     exact congrArg some (hnx c _ _ (List.getElem?_eq_getElem hc) (List.getElem?_eq_getElem (by omega)) k)
    ·rw [List.getElem?_eq_none (by omega),List.getElem?_eq_none (by omega)];rfl
  rw [hcs k]
  have:=hexec k
  show (execF (codeW ts L ds pl lk T) (k:Int) (C k) (nowL L ins k) (GivK ts L ins pl junk k)).2.1[i]? = _
  rw [this]
  show (((outP pl 0 ds).map fun p=>(((rootsW ts L ds pl lk T).2.getD p.1 0:Nat):Int)).map _)[i]? = _
  rw [hat,List.getElem?_map] at hij
  rw [List.map_map,List.getElem?_map]
  cases hp:(outP pl 0 ds)[i]? with
  | none=>rw [hp] at hij;cases hij
  | some p=>
   rw [hp] at hij
   have ej:p.2=j:=by simpa using hij
   obtain ⟨h1,h2,d,h3,h4⟩:=hout p (List.mem_of_getElem? hp)
   have:=hv p.1 ⟨d,h3,h4⟩ h1 k
   rw [h2,ej] at this
   exact congrArg some this
end
end Go.Proofs.YtecegaflhdgfaaaGreat
