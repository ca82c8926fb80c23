import Derived.Test.YtecegaflhdgfaaaGreatM07CdP
import Derived.Test.YtecegaflhdgfaaaGreatM08CwA
namespace Go.Proofs.YtecegaflhdgfaaaGreat
theorem regsF_app (n:Int) (cells ins links:List Int):∀ (l m:List OpF) (regs:List Int),regsF n cells ins links regs (l ++ m)=regsF n cells ins links (regsF n cells ins links regs l) m:=by
 intro l
 induction l with
 | nil=>intro m regs;rfl
 | cons a r ih=>intro m regs;exact ih m _
theorem regsF_more (n:Int) (cells ins links:List Int):∀ (l:List OpF) (regs:List Int),∃ x,regsF n cells ins links regs l=regs ++ x:=by
 intro l
 induction l with
 | nil=>intro regs;exact ⟨[],by simp [regsF]⟩
 | cons a r ih=>
  intro regs
  obtain ⟨x,hx⟩:=ih (regs ++ [laysF a n regs cells ins links])
  exact ⟨[laysF a n regs cells ins links] ++ x,by simp only [regsF];rw [hx,List.append_assoc]⟩
theorem lays_congr {o:OpF} (h0:0≤o.k) (h1:o.k≤14) {n:Int}{cells ins links r r':List Int} (h:∀ x∈(opArgs o).take (readsF o.k),atF r x=atF r' x):laysF o n r cells ins links=laysF o n r' cells ins links:=by
 unfold laysF
 by_cases k0:o.k=0;· rw [if_pos k0,if_pos k0]
 rw [if_neg k0,if_neg k0]
 by_cases k1:o.k=1;· rw [if_pos k1,if_pos k1]
 rw [if_neg k1,if_neg k1]
 by_cases k2:o.k=2;· rw [if_pos k2,if_pos k2]
 rw [if_neg k2,if_neg k2]
 by_cases k3:o.k=3;· rw [if_pos k3,if_pos k3]
 rw [if_neg k3,if_neg k3]
 by_cases k4:o.k=4;· rw [if_pos k4,if_pos k4]
 rw [if_neg k4,if_neg k4]
 have ha:atF r o.a=atF r' o.a:=h _ (by
  unfold readsF opArgs
  rw [if_neg (by omega)]
  split
  ·simp
  ·split <;> simp)
 have hb:o.k≠13→atF r o.b=atF r' o.b:=fun hk=>h _ (by
  unfold readsF opArgs
  rw [if_neg (by omega),if_neg hk]
  split <;> simp)
 have hc:o.k=14→atF r o.c=atF r' o.c:=fun hk=>h _ (by
  unfold readsF opArgs
  rw [if_neg (by omega),if_neg (by omega),if_pos hk]
  simp)
 by_cases k13:o.k=13
 ·simp only [k13,ha]
  rfl
 ·rw [ha,hb k13]
  by_cases k14:o.k=14
  ·rw [hc k14]
  ·by_cases k5:o.k=5;· rw [if_pos k5,if_pos k5]
   rw [if_neg k5,if_neg k5]
   by_cases k6:o.k=6;· rw [if_pos k6,if_pos k6]
   rw [if_neg k6,if_neg k6]
   by_cases k7:o.k=7;· rw [if_pos k7,if_pos k7]
   rw [if_neg k7,if_neg k7]
   by_cases k8:o.k=8;· rw [if_pos k8,if_pos k8]
   rw [if_neg k8,if_neg k8]
   by_cases k9:o.k=9;· rw [if_pos k9,if_pos k9]
   rw [if_neg k9,if_neg k9]
   by_cases k10:o.k=10;· rw [if_pos k10,if_pos k10]
   rw [if_neg k10,if_neg k10]
   by_cases k11:o.k=11;· rw [if_pos k11,if_pos k11]
   rw [if_neg k11,if_neg k11]
   by_cases k12:o.k=12;· rw [if_pos k12,if_pos k12]
   omega
theorem opOk_parts {nc j:Nat}{o:OpF} (h:opOk nc j o=true):0≤o.k∧o.k≤14∧∀ x∈(opArgs o).take (readsF o.k),regOk j x=true:=by
 unfold opOk at h
 simp only [Bool.and_eq_true,decide_eq_true_eq,List.all_eq_true] at h
 obtain ⟨⟨⟨h1,h2⟩,_⟩,h4⟩:=h
 exact ⟨h1,h2,h4⟩
theorem atF_nat (l:List Int) (j:Nat):atF l (j:Int)=l.getD j 0:=by
 unfold atF;rw [if_neg (by omega),Int.toNat_natCast]
theorem atF_pre {l x:List Int}{r:Int} (h:regOk l.length r=true):atF (l ++ x) r=atF l r:=by
 unfold regOk at h
 simp only [Bool.and_eq_true,decide_eq_true_eq] at h
 unfold atF
 rw [if_neg (by omega),if_neg (by omega),List.getD_eq_getElem?_getD,List.getD_eq_getElem?_getD,List.getElem?_append_left (by omega)]
theorem reg_at {ops:List OpF}{n:Int}{cells ins links:List Int}{nc j:Nat}{o:OpF} (hj:ops[j]? = some o) (hok:opOk nc j o=true) :
  atF (regsF n cells ins links [] ops) (j:Int)=laysF o n (regsF n cells ins links [] ops) cells ins links:=by
 obtain ⟨hl,hg⟩:=List.getElem?_eq_some_iff.1 hj
 have e:ops=ops.take j ++ (o :: ops.drop (j+1)):=by
  rw [← hg,← List.drop_eq_getElem_cons hl,List.take_append_drop]
 obtain ⟨P,hP⟩:∃ P,P=regsF n cells ins links [] (ops.take j):=⟨_,rfl⟩
 have hPl:P.length=j:=by rw [hP,regsF_len];simp;omega
 obtain ⟨x,hx⟩:=regsF_more n cells ins links (ops.drop (j+1)) (P ++ [laysF o n P cells ins links])
 have e2:regsF n cells ins links [] ops=P ++ ([laysF o n P cells ins links] ++ x):=by
  conv=>lhs;rw [e]
  rw [regsF_app,← hP]
  show regsF n cells ins links (P ++ [laysF o n P cells ins links]) (ops.drop (j+1))=_
  rw [hx,List.append_assoc]
 obtain ⟨h0,h1,h2⟩:=opOk_parts hok
 rw [e2,atF_nat,List.getD_eq_getElem?_getD,List.getElem?_append_right (by omega),hPl,Nat.sub_self]
 show laysF o n P cells ins links=_
 exact lays_congr h0 h1 (fun r hr=>(atF_pre (by rw [hPl];exact h2 r hr)).symm)
def OpsOk (nc:Nat) (s:WSt):Prop:=∀ (j:Nat) (o:OpF),s.ops[j]? = some o→opOk nc j o=true
theorem opsOk_add {nc:Nat}{s:WSt} (h:OpsOk nc s) {o:OpF} (ho:opOk nc s.ops.length o=true):OpsOk nc (wAdd s o).1:=by
 intro j x hj
 simp only [wAdd] at hj
 by_cases hl:j<s.ops.length
 ·rw [List.getElem?_append_left hl] at hj;exact h j x hj
 ·rw [List.getElem?_append_right (by omega)] at hj
  have:j - s.ops.length=0:=by
   have:=(List.getElem?_eq_some_iff.1 hj).1;simp at this;omega
  rw [this] at hj
  have e:o=x:=by simpa using hj
  have e2:j=s.ops.length:=by omega
  rw [← e,e2];exact ho
theorem opOk_0 (nc j:Nat) (k a:Int) (hk:k=0∨k=1∨k=2∨k=4):opOk nc j ⟨k,a,0,0⟩=true:=by
 rcases hk with rfl | rfl | rfl | rfl <;> simp [opOk,readsF,opArgs]
theorem regOk_nat {j r:Nat} (h:r<j):regOk j (r:Int)=true:=by unfold regOk;simp;omega
theorem opOk_3 {nc j c:Nat} (h:c<nc):opOk nc j ⟨3,(c:Int),0,0⟩=true:=by
 unfold opOk;simp [readsF,opArgs,regOk_nat h]
theorem opOk_13 {nc j a:Nat} (h:a<j):opOk nc j ⟨13,(a:Int),0,0⟩=true:=by
 unfold opOk;simp [readsF,opArgs,regOk_nat h]
theorem opOk_14 {nc j a b c:Nat} (h:a<j) (h2:b<j) (h3:c<j):opOk nc j ⟨14,(a:Int),(b:Int),(c:Int)⟩=true:=by
 unfold opOk;simp [readsF,opArgs,regOk_nat h,regOk_nat h2,regOk_nat h3]
theorem opOk_op {nc j a b k:Nat} (h5:5≤k) (h12:k≤12) (h:a<j) (h2:b<j):opOk nc j ⟨(k:Int),(a:Int),(b:Int),0⟩=true:=by
 have e:readsF (k:Int)=2:=by unfold readsF;rw [if_neg (by omega),if_neg (by omega),if_neg (by omega)]
 unfold opOk opArgs
 simp only [e]
 simp [regOk_nat h,regOk_nat h2];omega
theorem opOf_num {l:List UInt8} (h:(opOf l).isSome=true):5≤(opOf l).getD 0∧(opOf l).getD 0≤12:=by
 rcases op_some h with rfl | rfl | rfl | rfl | rfl | rfl | rfl | rfl <;> decide
structure NmA (E:WEnv) (V:List UInt8→Nat→Int) (I K:Nat→List Int) (j:Nat):Prop where
 inp:kindAt E.ds (leafB E j 0).decl=0→∀ k,atF (I k) ((numAt E.ds (leafB E j 0).decl:Nat):Int)=V (lAt E.ts j) k
 pro:kindAt E.ds (leafB E j 0).decl≠0→((plAt E.ds (leafB E j 0).decl:Nat):Int)≠E.pl→(wLink E (leafB E j 0)).2=false→∀ k,atF (K k) (((wLink E (leafB E j 0)).1:Nat):Int)=V (lAt E.ts j) k
 lat:kindAt E.ds (leafB E j 0).decl≠0→((plAt E.ds (leafB E j 0).decl:Nat):Int)≠E.pl→(wLink E (leafB E j 0)).2=true→∀ k,atF (K (k+1)) (((wLink E (leafB E j 0)).1:Nat):Int)=V (lAt E.ts j) k
 own:kindAt E.ds (leafB E j 0).decl≠0→((plAt E.ds (leafB E j 0).decl:Nat):Int)=E.pl→(wLink E (leafB E j 0)).2=false
 prm:lAt E.ts (j - 1)≠kFby→(wLink E (leafB E j 0)).2=false
def OwnT (E:WEnv) (top j:Nat):Prop:=kindAt E.ds (leafB E j 0).decl≠0→((plAt E.ds (leafB E j 0).decl:Nat):Int)=E.pl→E.rs.getD (leafB E j 0).decl.toNat 0<top
theorem OwnT.mono {E:WEnv}{top top' j:Nat} (h:OwnT E top j) (hl:top≤top'):OwnT E top' j:=fun a b=>Nat.lt_of_lt_of_le (h a b) hl
theorem name_dl (E:WEnv) (s:WSt) (i dl:Nat):wName E s (leafB E i dl)=wName E s (leafB E i 0):=by
 obtain ⟨_,h2,_⟩:=leafB_dl E i dl 0
 unfold wName;rw [h2,wLink_dl E i dl 0]
theorem leaf_kind {ts:List Tk} (hF:∀ i,TkF (tkAt ts i)) (E:WEnv) (he:E.ts=ts) {i dl:Nat} (h:leafT (tkAt ts i)=true):(leafB E i dl).kind=2↔(tkAt ts i).kind=1:=by
 have hk:(leafB E i dl).kind=(leafN0 (tkAt ts i)).kind:=by
  unfold leafB;rw [he]
  rw [(bindF_keep E.ds _).1];rfl
 rw [hk]
 by_cases h1:(tkAt ts i).kind=1
 ·rw [leafN0_name (hF i) h1];simp [h1]
 ·simp [h1,leafN0_no h h1]
theorem late_leaf {E:WEnv}{b:Ast}{i:Nat} (h:lateB E b i=true):b = .leaf∧(wLink E (leafB E i 0)).2=true:=by
 cases b <;> simp [lateB] at h ⊢
 exact h
theorem link_true {E:WEnv}{n:Nd} (h:(wLink E n).2=true):n.kind=2∧kindAt E.ds n.decl≠0:=by
 unfold wLink at h
 split at h
 ·cases h
 ·rename_i h1;exact ⟨Classical.byContradiction fun e=>h1 (.inl e),fun e=>h1 (.inr e)⟩
section
variable {E:WEnv} (hF:∀ i,TkF (tkAt E.ts i))
include hF
omit hF in
theorem wn_ok {nc:Nat}{s:WSt}{j:Nat} (ho:OwnT E s.ops.length j) (hs:OpsOk nc s):(wName E s (leafB E j 0)).2<(wName E s (leafB E j 0)).1.ops.length∧OpsOk nc (wName E s (leafB E j 0)).1:=by
 unfold wName
 by_cases h:kindAt E.ds (leafB E j 0).decl=0
 ·rw [if_pos h];exact ⟨by simp [wAdd],opsOk_add hs (opOk_0 _ _ _ _ (.inr (.inl rfl)))⟩
 ·rw [if_neg h]
  by_cases h2:((plAt E.ds (leafB E j 0).decl:Nat):Int)=E.pl
  ·rw [if_pos h2];exact ⟨ho h h2,hs⟩
  ·rw [if_neg h2];exact ⟨by simp [wAdd],opsOk_add hs (opOk_0 _ _ _ _ (.inr (.inr (.inl rfl))))⟩
theorem wx_ok {nc:Nat}:∀ (t:Ast) (i dl o:Nat) (s:WSt),Sp E.ts t i→(∀ j∈und E.ts t i,OwnT E s.ops.length j)→
  (∀ j∈nms E.ts t i,(wLink E (leafB E j 0)).2=true→((plAt E.ds (leafB E j 0).decl:Nat):Int)≠E.pl)→(wExpr E t i dl o s).1.cells.length≤nc→OpsOk nc s→
  (wExpr E t i dl o s).2<(wExpr E t i dl o s).1.ops.length∧OpsOk nc (wExpr E t i dl o s).1:=by
 intro t
 induction t with
 | leaf=>
  intro i dl o s hs hu hn hc hok
  simp only [wExpr,wLeaf]
  by_cases h1:(leafB E i dl).kind=2
  ·rw [if_pos h1,name_dl]
   have hk:=(leaf_kind hF E rfl hs.1).1 h1
   exact wn_ok (hu i (by simp only [und];rw [if_pos hk];simp)) hok
  ·rw [if_neg h1];exact ⟨by simp [wAdd],opsOk_add hok (opOk_0 _ _ _ _ (.inl rfl))⟩
 | neg a iha=>
  intro i dl o s hs hu hn hc hok
  obtain ⟨h1,h2⟩:=iha (i+2) dl (o+1) s hs.2.2.1 hu hn hc hok
  exact ⟨by simp [wExpr,wAdd],opsOk_add h2 (opOk_13 h1)⟩
 | ite a b c iha ihb ihc=>
  intro i dl o s hs hu hn hc hok
  obtain ⟨_,_,sa,sb,sc,_⟩:=hs
  simp only [und,nms,List.mem_append] at hu hn
  obtain ⟨x,hx⟩:∃ x,x=wExpr E a (i+2) dl (o+1) s:=⟨_,rfl⟩
  obtain ⟨y,hy⟩:∃ y,y=wExpr E b (i+2+a.len) dl (o+1+a.size) x.1:=⟨_,rfl⟩
  obtain ⟨z,hz⟩:∃ z,z=wExpr E c (i+2+a.len+b.len) dl (o+1+a.size+b.size) y.1:=⟨_,rfl⟩
  have px:Pre s x.1:=by rw [hx];exact pre_expr E _ _ _ _ _
  have py:Pre x.1 y.1:=by rw [hy];exact pre_expr E _ _ _ _ _
  have pz:Pre y.1 z.1:=by rw [hz];exact pre_expr E _ _ _ _ _
  have e:wExpr E (.ite a b c) i dl o s=wAdd z.1 ⟨14,(x.2:Nat),(y.2:Nat),(z.2:Nat)⟩:=by simp only [wExpr];rw [← hx,← hy,← hz]
  rw [e] at hc ⊢
  have lx:=px.len
  have ly:=py.len
  have lz:=pz.len
  have hcz:z.1.cells.length≤nc:=by simpa [wAdd] using hc
  obtain ⟨a1,a2⟩:=iha (i+2) dl (o+1) s sa (fun j hj=>hu j (.inl hj)) (fun j hj=>hn j (.inl hj)) (by rw [← hx];omega) hok
  rw [← hx] at a1 a2
  obtain ⟨b1,b2⟩:=ihb (i+2+a.len) dl (o+1+a.size) x.1 sb (fun j hj=>(hu j (.inr (.inl hj))).mono (by omega)) (fun j hj=>hn j (.inr (.inl hj))) (by rw [← hy];omega) a2
  rw [← hy] at b1 b2
  obtain ⟨c1,c2⟩:=ihc (i+2+a.len+b.len) dl (o+1+a.size+b.size) y.1 sc (fun j hj=>(hu j (.inr (.inr hj))).mono (by omega)) (fun j hj=>hn j (.inr (.inr hj))) (by rw [← hz];omega) b2
  rw [← hz] at c1 c2
  exact ⟨by simp [wAdd],opsOk_add c2 (opOk_14 (by omega) (by omega) c1)⟩
 | dly b ihb=>
  intro i dl o s hs hu hn hc hok
  simp only [wExpr] at hc ⊢
  by_cases hl:lateB E b (i+3)=true
  ·rw [if_pos hl]
   obtain ⟨rfl,h2⟩:=late_leaf hl
   have hk:=(leaf_kind hF E rfl (i:=i+3) (dl:=0) hs.2.2.2.1.1).1 (link_true h2).1
   have hne:=hn (i+3) (by simp only [nms];rw [if_pos hk];simp) h2
   have ho:OwnT E (wAdd (wAdd s ⟨4,0,0,0⟩).1 ⟨0,((leafB E (i+1) dl).value:Nat),0,0⟩).1.ops.length (i+3):=fun _ e=>absurd e hne
   have h3:=wn_ok ho (opsOk_add (opsOk_add hok (opOk_0 _ _ 4 _ (.inr (.inr (.inr rfl))))) (opOk_0 nc _ 0 ((leafB E (i+1) dl).value:Nat) (.inl rfl)))
   have h4:=(pre_name E (wAdd (wAdd s ⟨4,0,0,0⟩).1 ⟨0,((leafB E (i+1) dl).value:Nat),0,0⟩).1 (leafB E (i+3) 0)).len.1
   have h5:(wAdd (wAdd s ⟨4,0,0,0⟩).1 ⟨0,((leafB E (i+1) dl).value:Nat),0,0⟩).1.ops.length=s.ops.length+2:=by simp [wAdd]
   unfold wHand
   rw [name_dl]
   exact ⟨by simp [wAdd],opsOk_add h3.2 (opOk_14 (by omega) (by omega) h3.1)⟩
  ·rw [if_neg hl] at hc ⊢
   refine ⟨by simp [wCell],?_⟩
   simp only [wCell,List.length_append,List.length_singleton] at hc
   exact opsOk_add hok (opOk_3 (by omega))
 | bin a b iha ihb=>
  intro i dl o s hs hu hn hc hok
  obtain ⟨_,sa,so,sb,_⟩:=hs
  simp only [und,nms,List.mem_append] at hu hn
  obtain ⟨x,hx⟩:∃ x,x=wExpr E a (i+1) dl (o+1) s:=⟨_,rfl⟩
  obtain ⟨y,hy⟩:∃ y,y=wExpr E b (i+2+a.len) dl (o+1+a.size) x.1:=⟨_,rfl⟩
  have px:Pre s x.1:=by rw [hx];exact pre_expr E _ _ _ _ _
  have py:Pre x.1 y.1:=by rw [hy];exact pre_expr E _ _ _ _ _
  have e:wExpr E (.bin a b) i dl o s=wAdd y.1 ⟨((opOf (lAt E.ts (i+1+a.len))).getD 0:Nat),(x.2:Nat),(y.2:Nat),0⟩:=by simp only [wExpr];rw [← hx,← hy]
  rw [e] at hc ⊢
  have lx:=px.len
  have ly:=py.len
  have hcy:y.1.cells.length≤nc:=by simpa [wAdd] using hc
  obtain ⟨a1,a2⟩:=iha (i+1) dl (o+1) s sa (fun j hj=>hu j (.inl hj)) (fun j hj=>hn j (.inl hj)) (by rw [← hx];omega) hok
  rw [← hx] at a1 a2
  obtain ⟨b1,b2⟩:=ihb (i+2+a.len) dl (o+1+a.size) x.1 sb (fun j hj=>(hu j (.inr hj)).mono (by omega)) (fun j hj=>hn j (.inr hj)) (by rw [← hy];omega) a2
  rw [← hy] at b1 b2
  obtain ⟨n1,n2⟩:=opOf_num so
  exact ⟨by simp [wAdd],opsOk_add b2 (opOk_op n1 n2 (by omega) b1)⟩
end
theorem lays_op {l:List UInt8} (h:(opOf l).isSome=true) {n:Int}{rg cells ins links:List Int}{a b:Nat}{A B:Int} (ha:atF rg (a:Int)=A) (hb:atF rg (b:Int)=B) (hbit:l=[38]∨l=[124]→Bit A∧Bit B) :
  laysF ⟨((opOf l).getD 0:Nat),(a:Int),(b:Int),0⟩ n rg cells ins links=apF l A B:=by
 rcases op_some h with rfl | rfl | rfl | rfl | rfl | rfl | rfl | rfl
 ·show w64 (atF rg a+atF rg b)=_;rw [ha,hb];rfl
 ·show w64 (atF rg a - atF rg b)=_;rw [ha,hb];rfl
 ·show w64 (atF rg a * atF rg b)=_;rw [ha,hb];rfl
 ·show apF [47] (atF rg a) (atF rg b)=_;rw [ha,hb]
 ·show b2i (decide (atF rg a<atF rg b))=_;rw [ha,hb];rfl
 ·show b2i (decide (atF rg a=atF rg b))=_;rw [ha,hb];rfl
 ·obtain ⟨h1,h2⟩:=hbit (.inl rfl)
  show b2i (decide (atF rg a≠0) && decide (atF rg b≠0))=_
  rw [ha,hb]
  rcases h1 with rfl | rfl <;> rcases h2 with rfl | rfl <;> decide
 ·obtain ⟨h1,h2⟩:=hbit (.inr rfl)
  show b2i (decide (atF rg a≠0) || decide (atF rg b≠0))=_
  rw [ha,hb]
  rcases h1 with rfl | rfl <;> rcases h2 with rfl | rfl <;> decide
def RgK (F:WSt) (I K C:Nat→List Int) (k:Nat):List Int:=regsF (k:Int) (C k) (I k) (K k) [] F.ops
structure Sem (E:WEnv) (F:WSt) (V:List UInt8→Nat→Int) (C:Nat→List Int):Prop where
 ok:OpsOk F.cells.length F
 c0:∀ (c:Nat) (x:Int),F.cells[c]? = some x→atF (C 0) (c:Int)=x
 cS:∀ (c:Nat) (l:Lt) (k:Nat),F.later[c]? = some l→atF (C (k+1)) (c:Int)=evT E.ts V l.t l.i k
def OwnW (E:WEnv) (F:WSt) (V:List UInt8→Nat→Int) (I K C:Nat→List Int) (j:Nat):Prop:=
 kindAt E.ds (leafB E j 0).decl≠0→((plAt E.ds (leafB E j 0).decl:Nat):Int)=E.pl→∀ k,atF (RgK F I K C k) ((E.rs.getD (leafB E j 0).decl.toNat 0:Nat):Int)=V (lAt E.ts j) k
section
variable {E:WEnv} {L:List Dl} {F:WSt} {V:List UInt8→Nat→Int} {I K C:Nat→List Int}
 (hF:∀ i,TkF (tkAt E.ts i)) (hV:∀ k n,k<E.ts.length→nameT E.ts L k=true→Bit (V (lAt E.ts k) n)) (hS:Sem E F V C)
include hF hS
omit hF in
theorem RgK_at {s:WSt}{o:OpF} (h:Pre (wAdd s o).1 F) (k:Nat):atF (RgK F I K C k) (((wAdd s o).2:Nat):Int)=laysF o (k:Int) (RgK F I K C k) (C k) (I k) (K k):=by
 have h1:(wAdd s o).1.ops[s.ops.length]? = some o:=by simp [wAdd]
 exact reg_at (h.op h1) (hS.ok _ _ (h.op h1))
omit hF in
theorem wn_val {s:WSt}{j:Nat} (hA:NmA E V I K j) (hO:OwnW E F V I K C j) (hl:(wLink E (leafB E j 0)).2=false) (hp:Pre (wName E s (leafB E j 0)).1 F) (k:Nat) :
  atF (RgK F I K C k) (((wName E s (leafB E j 0)).2:Nat):Int)=V (lAt E.ts j) k:=by
 unfold wName at hp ⊢
 by_cases h:kindAt E.ds (leafB E j 0).decl=0
 ·rw [if_pos h] at hp ⊢
  rw [RgK_at hS hp]
  exact hA.inp h k
 ·rw [if_neg h] at hp ⊢
  by_cases h2:((plAt E.ds (leafB E j 0).decl:Nat):Int)=E.pl
  ·rw [if_pos h2] at hp ⊢
   exact hO h h2 k
  ·rw [if_neg h2] at hp ⊢
   rw [RgK_at hS hp]
   exact hA.pro h h2 hl k
omit hS in
theorem leaf_value {i dl:Nat} (h:litT (tkAt E.ts i)=true):(leafB E i dl).kind≠2∧(((leafB E i dl).value:Nat):Int)=litV (tkAt E.ts i):=by
 have hlf:leafT (tkAt E.ts i)=true:=by unfold leafT;rw [h];rfl
 have hk1:(tkAt E.ts i).kind≠1:=by have:=lit_nm hF h;unfold isNm at this;simpa using this
 have hk:(leafB E i dl).kind≠2:=fun e=>hk1 ((leaf_kind hF E rfl hlf).1 e)
 refine ⟨hk,?_⟩
 have:=lit_val hF (ds:=E.ds) (ins:=[]) (k:=0) (X:=fun _=>0) (Y:=fun _=>0) (dl:=dl) h
 rw [this]
 show _=valF E.ds [] (leafB E i dl) 0 (fun _=>0) (fun _=>0)
 have hk6:(leafB E i dl).kind≤2:=by
  unfold leafB
  rw [(bindF_keep E.ds _).1,mkN_kind]
  unfold leafN0
  split;· simp
  split;· simp
  split;· simp
  ·simp
 unfold valF
 rw [if_neg hk,if_neg (by omega),if_neg (by omega),if_neg (by omega),if_neg (by omega)]
include hV in
theorem wx_val:∀ (t:Ast) (i dl o w:Nat) (s:WSt),Sp E.ts t i→i+t.len≤E.ts.length→wrongR E.ts L t i w=none→(∀ j∈nms E.ts t i,NmA E V I K j)→(∀ j∈und E.ts t i,OwnW E F V I K C j)→
  lateB E t i=false→s.cells.length=s.later.length→Pre (wExpr E t i dl o s).1 F→∀ k,atF (RgK F I K C k) (((wExpr E t i dl o s).2:Nat):Int)=evT E.ts V t i k:=by
 intro t
 induction t with
 | leaf=>
  intro i dl o w s hs hl hw hA hO hb hsm hp k
  simp only [wExpr,wLeaf] at hp ⊢
  by_cases h1:(leafB E i dl).kind=2
  ·rw [if_pos h1,name_dl] at hp ⊢
   have hk:=(leaf_kind hF E rfl hs.1).1 h1
   have hm:i∈nms E.ts .leaf i:=by simp only [nms];rw [if_pos hk];simp
   have hmu:i∈und E.ts .leaf i:=by simp only [und];rw [if_pos hk];simp
   rw [wn_val hS (hA i hm) (hO i hmu) hb hp k]
   unfold evT;rw [if_pos hk]
  ·rw [if_neg h1] at hp ⊢
   have hk:(tkAt E.ts i).kind≠1:=fun e=>h1 ((leaf_kind hF E rfl hs.1).2 e)
   have h2:litT (tkAt E.ts i)=true:=by
    have:=hs.1
    unfold leafT at this
    rwa [show ((tkAt E.ts i).kind == 1)=false by simpa using hk,Bool.or_false] at this
   rw [RgK_at hS hp]
   show (((leafB E i dl).value:Nat):Int)=_
   rw [(leaf_value hF h2).2]
   unfold evT;rw [if_neg hk]
 | neg a iha=>
  intro i dl o w s hs hl hw hA hO hb hsm hp k
  obtain ⟨_,g2,g3,_⟩:=hs
  simp only [Ast.len] at hl
  simp only [wrongR] at hw
  have hbit:=ev_bit hF hV a (i+2) k g3 (by omega) (bad_if hw).2
  have hla:lateB E a (i+2)=false:=by
   cases a <;> try rfl
   cases hx:lateB E .leaf (i+2) with
   | false=>rfl
   | true=>
    have h2:=(late_leaf hx).2
    have hk:=(leaf_kind hF E rfl (i:=i+2) (dl:=0) g3.1).1 (link_true h2).1
    have:=(hA (i+2) (by simp only [nms];rw [if_pos hk];simp)).prm (by rw [show i+2 - 1=i+1 by omega,g2];decide)
    rw [this] at h2;cases h2
  have hpa:Pre (wExpr E a (i+2) dl (o+1) s).1 F:=(pre_add _ _).trans hp
  have ih:=iha (i+2) dl (o+1) 116 s g3 (by omega) (bad_if hw).2 hA hO hla hsm hpa k
  simp only [wExpr] at hp ⊢
  rw [RgK_at hS hp]
  show b2i (decide (atF (RgK F I K C k) _=0))=w64 (1 - evT E.ts V a (i+2) k)
  rw [ih]
  rcases hbit with ha | ha <;> rw [ha] <;> rw [w64_id _ (by decide) (by decide)] <;> decide
 | ite a b c iha ihb ihc=>
  intro i dl o w s hs hl hw hA hO hb hsm hp k
  obtain ⟨_,g2,sa,sb,sc,_⟩:=hs
  simp only [Ast.len] at hl
  simp only [wrongR] at hw
  obtain ⟨_,hw⟩:=bad_if hw
  obtain ⟨wa,hw⟩:=or_none hw
  obtain ⟨wb,wc⟩:=or_none hw
  have hbit:=ev_bit hF hV a (i+2) k sa (by omega) wa
  simp only [und,nms,List.mem_append] at hA hO
  have hend:∀ (t:Ast) (m:Nat),Sp E.ts t m→lAt E.ts (m+t.len - 1)≠kFby:=fun t m hm=>by
   cases t with
   | leaf=>simp only [Ast.len,Nat.add_sub_cancel];exact leaf_ne hF hm.1 (by decide) (by decide) (by decide)
   | neg a=>simp only [Ast.len];rw [show m+(a.len+3) - 1=m+2+a.len by omega,hm.2.2.2];decide
   | ite a b c=>simp only [Ast.len];rw [show m+(a.len+b.len+c.len+3) - 1=m+2+a.len+b.len+c.len by omega,hm.2.2.2.2.2];decide
   | dly b=>simp only [Ast.len];rw [show m+(b.len+4) - 1=m+3+b.len by omega,hm.2.2.2.2];decide
   | bin a b=>simp only [Ast.len];rw [show m+(a.len+b.len+3) - 1=m+2+a.len+b.len by omega,hm.2.2.2.2];decide
  have hlt:∀ (t:Ast) (m:Nat),Sp E.ts t m→lAt E.ts (m - 1)≠kFby→(∀ j∈nms E.ts t m,NmA E V I K j)→lateB E t m=false:=fun t m hm hne hn=>by
   cases t <;> try rfl
   cases hx:lateB E .leaf m with
   | false=>rfl
   | true=>
    have h2:=(late_leaf hx).2
    have hk:=(leaf_kind hF E rfl (i:=m) (dl:=0) hm.1).1 (link_true h2).1
    have:=(hn m (by simp only [nms];rw [if_pos hk];simp)).prm hne
    rw [this] at h2;cases h2
  obtain ⟨x,hx⟩:∃ x,x=wExpr E a (i+2) dl (o+1) s:=⟨_,rfl⟩
  obtain ⟨y,hy⟩:∃ y,y=wExpr E b (i+2+a.len) dl (o+1+a.size) x.1:=⟨_,rfl⟩
  obtain ⟨z,hz⟩:∃ z,z=wExpr E c (i+2+a.len+b.len) dl (o+1+a.size+b.size) y.1:=⟨_,rfl⟩
  have e:wExpr E (.ite a b c) i dl o s=wAdd z.1 ⟨14,(x.2:Nat),(y.2:Nat),(z.2:Nat)⟩:=by simp only [wExpr];rw [← hx,← hy,← hz]
  rw [e] at hp ⊢
  have pz:Pre z.1 F:=(pre_add _ _).trans hp
  have py:Pre y.1 F:=Pre.trans (by rw [hz];exact pre_expr E _ _ _ _ _) pz
  have px:Pre x.1 F:=Pre.trans (by rw [hy];exact pre_expr E _ _ _ _ _) py
  have sx:x.1.cells.length=x.1.later.length:=by have:=(wle_expr E a (i+2) dl (o+1) s sa).same;rw [← hx] at this;omega
  have sy:y.1.cells.length=y.1.later.length:=by have:=(wle_expr E b (i+2+a.len) dl (o+1+a.size) x.1 sb).same;rw [← hy] at this;omega
  have ea:=iha (i+2) dl (o+1) 116 s sa (by omega) wa (fun j hj=>hA j (.inl hj)) (fun j hj=>hO j (.inl hj)) (hlt a _ sa (by rw [show i+2 - 1=i+1 by omega,g2];decide) (fun j hj=>hA j (.inl hj))) hsm (by rw [← hx];exact px) k
  have eb:=ihb (i+2+a.len) dl (o+1+a.size) w x.1 sb (by omega) wb (fun j hj=>hA j (.inr (.inl hj))) (fun j hj=>hO j (.inr (.inl hj))) (hlt b _ sb (hend a (i+2) sa) (fun j hj=>hA j (.inr (.inl hj)))) sx (by rw [← hy];exact py) k
  have ec:=ihc (i+2+a.len+b.len) dl (o+1+a.size+b.size) w y.1 sc (by omega) wc (fun j hj=>hA j (.inr (.inr hj))) (fun j hj=>hO j (.inr (.inr hj))) (hlt c _ sc (hend b (i+2+a.len) sb) (fun j hj=>hA j (.inr (.inr hj)))) sy (by rw [← hz];exact pz) k
  rw [← hx] at ea
  rw [← hy] at eb
  rw [← hz] at ec
  rw [RgK_at hS hp]
  show (if atF (RgK F I K C k) ((x.2:Nat):Int)=0 then atF (RgK F I K C k) ((z.2:Nat):Int) else atF (RgK F I K C k) ((y.2:Nat):Int))=if evT E.ts V a (i+2) k=1 then evT E.ts V b (i+2+a.len) k else evT E.ts V c (i+2+a.len+b.len) k
  rw [ea,eb,ec]
  rcases hbit with ha | ha <;> rw [ha] <;> rfl
 | dly b ihb=>
  intro i dl o w s hs hl hw hA hO hb hsm hp k
  obtain ⟨_,g2,g3,sb,_⟩:=hs
  have hv:=(leaf_value hF (dl:=dl) g2).2
  simp only [wExpr] at hp ⊢
  by_cases hlt:lateB E b (i+3)=true
  ·rw [if_pos hlt] at hp ⊢
   obtain ⟨rfl,h2⟩:=late_leaf hlt
   have hk:=(leaf_kind hF E rfl (i:=i+3) (dl:=0) sb.1).1 (link_true h2).1
   have hAj:=hA (i+3) (by simp only [nms];rw [if_pos hk];simp)
   have hkd:=(link_true h2).2
   have hne:((plAt E.ds (leafB E (i+3) 0).decl:Nat):Int)≠E.pl:=fun e=>by rw [hAj.own hkd e] at h2;cases h2
   unfold wHand at hp ⊢
   rw [name_dl] at hp ⊢
   have hnm:wName E (wAdd (wAdd s ⟨4,0,0,0⟩).1 ⟨0,((leafB E (i+1) dl).value:Nat),0,0⟩).1 (leafB E (i+3) 0)=wAdd (wAdd (wAdd s ⟨4,0,0,0⟩).1 ⟨0,((leafB E (i+1) dl).value:Nat),0,0⟩).1 ⟨2,((wLink E (leafB E (i+3) 0)).1:Nat),0,0⟩:=by
    unfold wName;rw [if_neg hkd,if_neg hne]
   rw [hnm] at hp ⊢
   have p3:=(pre_add _ _).trans hp
   have p2:=(pre_add _ _).trans p3
   have p1:=(pre_add _ _).trans p2
   have e1:=RgK_at (I:=I) (K:=K) hS p1 k
   have e2:=RgK_at (I:=I) (K:=K) hS p2 k
   have e3:=RgK_at (I:=I) (K:=K) hS p3 k
   have n1:(wAdd s ⟨4,0,0,0⟩).2=s.ops.length:=rfl
   have n2:(wAdd (wAdd s ⟨4,0,0,0⟩).1 ⟨0,((leafB E (i+1) dl).value:Nat),0,0⟩).2=s.ops.length+1:=by simp [wAdd]
   rw [n1] at e1
   rw [n2] at e2
   rw [RgK_at hS hp]
   show (if atF (RgK F I K C k) ((s.ops.length:Nat):Int)=0 then atF (RgK F I K C k) _ else atF (RgK F I K C k) ((s.ops.length+1:Nat):Int))=_
   rw [e1,e2,e3]
   show (if b2i (decide ((k:Int)=0))=0 then atF (K k) (((wLink E (leafB E (i+3) 0)).1:Nat):Int) else (((leafB E (i+1) dl).value:Nat):Int))=_
   cases k with
   | zero=>rw [if_neg (by decide),hv];rfl
   | succ k=>
    rw [if_pos (by rw [decide_eq_false (by omega)];rfl),hAj.lat hkd hne h2 k]
    simp only [evT]
    rw [if_pos hk]
  ·rw [if_neg hlt] at hp ⊢
   have h1:(wCell s (leafB E (i+1) dl) ⟨b,i+3,dl+1,o+2⟩).1.ops[s.ops.length]? = some ⟨3,(s.cells.length:Nat),0,0⟩:=by simp [wCell]
   have h2:(wCell s (leafB E (i+1) dl) ⟨b,i+3,dl+1,o+2⟩).1.cells[s.cells.length]? = some (((leafB E (i+1) dl).value:Nat):Int):=by simp [wCell]
   have e:=reg_at (n:=(k:Int)) (cells:=C k) (ins:=I k) (links:=K k) (hp.op h1) (hS.ok _ _ (hp.op h1))
   show atF (RgK F I K C k) ((s.ops.length:Nat):Int)=_
   unfold RgK
   rw [e]
   show atF (C k) ((s.cells.length:Nat):Int)=_
   cases k with
   | zero=>rw [hS.c0 _ _ (hp.cell h2),hv];rfl
   | succ k=>
    have h3:(wCell s (leafB E (i+1) dl) ⟨b,i+3,dl+1,o+2⟩).1.later[s.cells.length]? = some ⟨b,i+3,dl+1,o+2⟩:=by rw [hsm];simp [wCell]
    rw [hS.cS _ _ k (hp.lat h3)];rfl
 | bin a b iha ihb=>
  intro i dl o w s hs hl hw hA hO hb hsm hp k
  obtain ⟨g1,sa,so,sb,_⟩:=hs
  simp only [Ast.len] at hl
  simp only [wrongR] at hw
  obtain ⟨_,hw⟩:=bad_if hw
  obtain ⟨wa,wb⟩:=or_none hw
  simp only [und,nms,List.mem_append] at hA hO
  have hlt:∀ (t:Ast) (m:Nat),Sp E.ts t m→lAt E.ts (m - 1)≠kFby→(∀ j∈nms E.ts t m,NmA E V I K j)→lateB E t m=false:=fun t m hm hne hn=>by
   cases t <;> try rfl
   cases hx:lateB E .leaf m with
   | false=>rfl
   | true=>
    have h2:=(late_leaf hx).2
    have hk:=(leaf_kind hF E rfl (i:=m) (dl:=0) hm.1).1 (link_true h2).1
    have:=(hn m (by simp only [nms];rw [if_pos hk];simp)).prm hne
    rw [this] at h2;cases h2
  obtain ⟨x,hx⟩:∃ x,x=wExpr E a (i+1) dl (o+1) s:=⟨_,rfl⟩
  obtain ⟨y,hy⟩:∃ y,y=wExpr E b (i+2+a.len) dl (o+1+a.size) x.1:=⟨_,rfl⟩
  have e:wExpr E (.bin a b) i dl o s=wAdd y.1 ⟨((opOf (lAt E.ts (i+1+a.len))).getD 0:Nat),(x.2:Nat),(y.2:Nat),0⟩:=by simp only [wExpr];rw [← hx,← hy]
  rw [e] at hp ⊢
  have py:Pre y.1 F:=(pre_add _ _).trans hp
  have px:Pre x.1 F:=Pre.trans (by rw [hy];exact pre_expr E _ _ _ _ _) py
  have sx:x.1.cells.length=x.1.later.length:=by have:=(wle_expr E a (i+1) dl (o+1) s sa).same;rw [← hx] at this;omega
  have ea:=iha (i+1) dl (o+1) _ s sa (by omega) wa (fun j hj=>hA j (.inl hj)) (fun j hj=>hO j (.inl hj)) (hlt a _ sa (by rw [show i+1 - 1=i by omega,g1];decide) (fun j hj=>hA j (.inl hj))) hsm (by rw [← hx];exact px) k
  have eb:=ihb (i+2+a.len) dl (o+1+a.size) _ x.1 sb (by omega) wb (fun j hj=>hA j (.inr hj)) (fun j hj=>hO j (.inr hj)) (hlt b _ sb (by
   rw [show i+2+a.len - 1=i+1+a.len by omega]
   rcases op_some so with h | h | h | h | h | h | h | h <;> rw [h] <;> decide) (fun j hj=>hA j (.inr hj))) sx (by rw [← hy];exact py) k
  rw [← hx] at ea
  rw [← hy] at eb
  rw [RgK_at hS hp]
  obtain ⟨A,hA'⟩:∃ A,A=evT E.ts V a (i+1) k:=⟨_,rfl⟩
  obtain ⟨B,hB'⟩:∃ B,B=evT E.ts V b (i+2+a.len) k:=⟨_,rfl⟩
  have hbits:lAt E.ts (i+1+a.len)=[38]∨lAt E.ts (i+1+a.len)=[124]→Bit A∧Bit B:=fun ho=>by
   have hbo:bothR (lAt E.ts (i+1+a.len))=116:=by unfold bothR;rw [if_pos ho]
   rw [hbo] at wa wb
   rw [hA',hB']
   exact ⟨ev_bit hF hV a _ k sa (by omega) wa,ev_bit hF hV b _ k sb (by omega) wb⟩
  show _=apF (lAt E.ts (i+1+a.len)) (evT E.ts V a (i+1) k) (evT E.ts V b (i+2+a.len) k)
  rw [← hA',← hB']
  rw [← hA'] at ea
  rw [← hB'] at eb
  exact lays_op so ea eb hbits
end
def dlAt (ns:List Nd) (j:Nat):Bool:=((ns[j]?).map Nd.delayed).getD false
structure Meant (ds:List Dc) (ns:List Nd) (ins:List (List Int)) (NV:Nat→Nat→Int):Prop where
 cover:∀ i,i<ns.length→∃ (a:Nat) (d:Dc),ds[a]? = some d∧d.kind≠0∧d.root≤i∧i<d.fin
 val:∀ (i:Nat) (n:Nd),ns[i]? = some n→∀ k,NV k i=valF ds ins n k (NV k) (NV (k - 1))
 kids:∀ (a:Nat) (d:Dc),ds[a]? = some d→d.kind≠0→∀ (i:Nat) (n:Nd),ns[i]? = some n→d.root≤i→i<d.fin→∀ c∈needs n,i<c∧c<d.fin∧dlAt ns c=n.delayed
 root:∀ (a:Nat) (d:Dc),ds[a]? = some d→d.kind≠0→d.root<ns.length∧dlAt ns d.root=false
 segs:∀ (a:Nat) (d:Dc),ds[a]? = some d→d.kind≠0→d.root<d.fin∧d.fin≤ns.length
 decl:∀ n∈ns,n.kind=2→0≤n.decl∧n.decl<(ds.length:Int)
 hang:∀ (a:Nat) (d:Dc),ds[a]? = some d→d.kind≠0→∀ (i:Nat) (n:Nd),ns[i]? = some n→d.root≤i→i<d.fin→n.kind=2→n.delayed=false→kindAt ds n.decl≠0→markAll ds ns 0 ds noM a n.decl.toNat=true
structure Ranked (ds:List Dc) (H:Mx) (rank:Nat→Nat):Prop where
 less:∀ a b,H a b=true→rank b<rank a∧∃ d,ds[b]? = some d∧d.kind≠0
 lt:∀ (a:Nat) (d:Dc),ds[a]? = some d→d.kind≠0→rank a<ds.length
structure OrdOk (ds:List Dc) (H:Mx) (T:List Nat):Prop where
 eqn:∀ t∈T,∃ d,ds[t]? = some d∧d.kind≠0
 topo:∀ (j t:Nat),T[j]? = some t→∀ b,H t b=true→b∈T.take j
 all:∀ (a:Nat) (d:Dc),ds[a]? = some d→d.kind≠0→a∈T
 len:T.length≤300
def valsD (ts:List Tk) (V:List UInt8→Nat→Int) (k:Nat):List Dl→List Int
 | []=>[]
 | x :: r=>if x.kind=0 then valsD ts V k r else flatV ts V k x.t (x.i+5) ++ valsD ts V k r
structure DY (ts:List Tk) (f:Nd→Nd) (ns:List Nd) (V:List UInt8→Nat→Int) (VL:Nat→List Int) (d:Dc) (x:Dl):Prop where
 kind:d.kind=x.kind
 name:d.name=nameD ts x
 zero:x.kind=0→d.root=0∧d.fin=0
 fin:x.kind≠0→d.fin=d.root+x.t.size
 nodes:x.kind≠0→AllAt (fun j n=>ns[j]? = some (f n)) d.root (flat ts x.t (x.i+5) 0 d.root)
 vals:x.kind≠0→∀ k,AllAt (fun j v=>(VL k).getD j 0=v) d.root (flatV ts V k x.t (x.i+5))
theorem allAt_mid {α:Type} (A l B:List α):AllAt (fun j x=>(A ++ (l ++ B))[j]? = some x) A.length l:=by
 rw [allAt_get]
 intro m x hm
 have h:=(List.getElem?_eq_some_iff.1 hm).1
 rw [List.getElem?_append_right (by omega),Nat.add_sub_cancel_left,List.getElem?_append_left h]
 exact hm
theorem allAt_map {α β:Type}{P:Nat→β→Prop} (f:α→β):∀ (l:List α) (o:Nat),AllAt P o (l.map f)→AllAt (fun j x=>P j (f x)) o l:=by
 intro l
 induction l with
 | nil=>intro o _;trivial
 | cons x l ih=>intro o h;exact ⟨h.1,ih _ h.2⟩
theorem dy_all (ts:List Tk) (f:Nd→Nd) (V:List UInt8→Nat→Int):∀ (L:List Dl) (off a b:Nat) (N1:List Nd) (W1:Nat→List Int),N1.length=off→(∀ k,(W1 k).length=off)→
  All2 (DY ts f (N1 ++ (nodesD ts L off).map f) V (fun k=>W1 k ++ valsD ts V k L)) (declsD ts L off a b) L:=by
 intro L
 induction L with
 | nil=>intro off a b N1 W1 _ _;trivial
 | cons x r ih=>
  intro off a b N1 W1 hN hW
  simp only [declsD,nodesD,valsD]
  by_cases hk:x.kind=0
  ·simp only [if_pos hk]
   exact ⟨⟨hk.symm,rfl,fun _=>⟨rfl,rfl⟩,fun h=>absurd hk h,fun h=>absurd hk h,fun h=>absurd hk h⟩,ih off (a+1) b N1 W1 hN hW⟩
  ·simp only [if_neg hk]
   refine ⟨⟨rfl,rfl,fun h=>absurd h hk,fun _=>rfl,fun _=>?_,fun _ k=>?_⟩,?_⟩
   ·rw [List.map_append]
    show AllAt _ off _
    rw [← hN]
    exact allAt_map f _ _ (allAt_mid N1 _ _)
   ·show AllAt _ off _
    rw [← hW k]
    refine AllAt.mono (fun j v h=>?_) _ _ (allAt_mid (W1 k) (flatV ts V k x.t (x.i+5)) (valsD ts V k r))
    rw [List.getD_eq_getElem?_getD,h];rfl
   ·have:=ih (off+x.t.size) a (b+1) (N1 ++ (flat ts x.t (x.i+5) 0 off).map f) (fun k=>W1 k ++ flatV ts V k x.t (x.i+5)) (by simp [flat_len,hN]) (fun k=>by simp [flatV_len,hW k])
    rw [List.append_assoc,← List.map_append] at this
    simpa only [List.append_assoc] using this
theorem decls_num (ts:List Tk):∀ (L:List Dl) (off a b k:Nat) (d:Dc) (x:Dl),(declsD ts L off a b)[k]? = some d→L[k]? = some x→
  (x.kind=0→∃ m,d.number=a+m∧(inL L)[m]? = some x)∧(x.kind≠0→∃ m,d.number=b+m∧(eqL L)[m]? = some x):=by
 intro L
 induction L with
 | nil=>intro off a b k d x _ h;simp at h
 | cons y r ih=>
  intro off a b k d x h1 h2
  simp only [declsD] at h1
  by_cases hy:y.kind=0
  ·rw [if_pos hy] at h1
   have e1:inL (y :: r)=y :: inL r:=by simp [inL,hy]
   have e2:eqL (y :: r)=eqL r:=by simp [eqL,hy]
   rw [e1,e2]
   cases k with
   | zero=>
    simp only [List.getElem?_cons_zero,Option.some.injEq] at h1 h2
    subst h1 h2
    exact ⟨fun _=>⟨0,rfl,rfl⟩,fun h=>absurd hy h⟩
   | succ k=>
    rw [List.getElem?_cons_succ] at h1 h2
    obtain ⟨g1,g2⟩:=ih _ _ _ k d x h1 h2
    refine ⟨fun h=>?_,g2⟩
    obtain ⟨m,hm,hg⟩:=g1 h
    exact ⟨m+1,by omega,by rw [List.getElem?_cons_succ];exact hg⟩
  ·rw [if_neg hy] at h1
   have e1:inL (y :: r)=inL r:=by simp [inL,hy]
   have e2:eqL (y :: r)=y :: eqL r:=by simp [eqL,hy]
   rw [e1,e2]
   cases k with
   | zero=>
    simp only [List.getElem?_cons_zero,Option.some.injEq] at h1 h2
    subst h1 h2
    exact ⟨fun h=>absurd h hy,fun _=>⟨0,rfl,rfl⟩⟩
   | succ k=>
    rw [List.getElem?_cons_succ] at h1 h2
    obtain ⟨g1,g2⟩:=ih _ _ _ k d x h1 h2
    refine ⟨g1,fun h=>?_⟩
    obtain ⟨m,hm,hg⟩:=g2 h
    exact ⟨m+1,by omega,by rw [List.getElem?_cons_succ];exact hg⟩
theorem Right.one {ts:List Tk}{L:List Dl} (H:Right ts L) {a b:Nat}{x y:Dl} (hx:L[a]? = some x) (hy:L[b]? = some y) (he:(nameD ts x).data.toList=(nameD ts y).data.toList):a=b:=by
 have hi:=H.own x (List.mem_of_getElem? hx) y (List.mem_of_getElem? hy) he
 obtain ⟨h1,rfl⟩:=List.getElem?_eq_some_iff.1 hx
 obtain ⟨h2,rfl⟩:=List.getElem?_eq_some_iff.1 hy
 have hp:=H.pw
 rw [List.pairwise_iff_getElem] at hp
 rcases Nat.lt_trichotomy a b with h | h | h
 ·have:=hp a b h1 h2 h;have:=L[a].len_pos;omega
 ·exact h
 ·have:=hp b a h2 h1 h;have:=L[b].len_pos;omega
theorem Right.sameIn {ts:List Tk}{L:List Dl} (H:Right ts L) {i j:Nat}{x y:Dl} (hx:(inL L)[i]? = some x) (hy:(inL L)[j]? = some y) (he:(nameD ts x).data.toList=(nameD ts y).data.toList):i=j:=by
 have mx:x∈L:=(List.mem_filter.1 (List.mem_of_getElem? hx)).1
 have my:y∈L:=(List.mem_filter.1 (List.mem_of_getElem? hy)).1
 have hi:=H.own x mx y my he
 obtain ⟨h1,rfl⟩:=List.getElem?_eq_some_iff.1 hx
 obtain ⟨h2,rfl⟩:=List.getElem?_eq_some_iff.1 hy
 have hp:(inL L).Pairwise (fun x y=>x.i+x.len≤y.i):=H.pw.filter _
 rw [List.pairwise_iff_getElem] at hp
 rcases Nat.lt_trichotomy i j with h | h | h
 ·have:=hp i j h1 h2 h;have:=(inL L)[i].len_pos;omega
 ·exact h
 ·have:=hp j i h2 h1 h;have:=(inL L)[j].len_pos;omega
theorem val_in {ts:List Tk}{L:List Dl} (H:Right ts L) {ins:List (List Int)}{R:Nat→Nat→Int}{m:Nat}{x:Dl} (hx:(inL L)[m]? = some x) (n:Nat):valV ts L ins R (nameD ts x).data.toList n=elemF ins m n:=by
 obtain ⟨j,hj⟩:=ix_some (p:=nmIs ts (nameD ts x).data.toList) (List.mem_of_getElem? hx) (by unfold nmIs;simp)
 have hj':inIx ts L (nameD ts x).data.toList=some j:=hj
 obtain ⟨g1,g2,_⟩:=List.findIdx?_eq_some_iff_getElem.1 hj
 have:=H.sameIn (List.getElem?_eq_getElem g1) hx (by simpa [nmIs] using g2)
 subst this
 unfold valV
 rw [hj']
theorem val_eq {ts:List Tk}{L:List Dl} (H:Right ts L) {ins:List (List Int)}{R:Nat→Nat→Int}{m:Nat}{x:Dl} (hx:(eqL L)[m]? = some x) (n:Nat):valV ts L ins R (nameD ts x).data.toList n=R m n:=by
 obtain ⟨j,hj⟩:=ix_some (p:=nmIs ts (nameD ts x).data.toList) (List.mem_of_getElem? hx) (by unfold nmIs;simp)
 have hj':eqIx ts L (nameD ts x).data.toList=some j:=hj
 obtain ⟨z,hz,hn⟩:=eqIx_some hj'
 have:=H.same hz hx hn
 subst this
 have hi:inIx ts L (nameD ts x).data.toList=none:=by
  cases hi:inIx ts L (nameD ts x).data.toList with
  | none=>rfl
  | some i=>
   exfalso
   obtain ⟨g1,g2,_⟩:=List.findIdx?_eq_some_iff_getElem.1 hi
   have g3:(nameD ts (inL L)[i]).data.toList=(nameD ts x).data.toList:=by simpa [nmIs] using g2
   have m1:=List.mem_filter.1 (List.getElem_mem g1)
   have m2:=List.mem_filter.1 (List.mem_of_getElem? hx)
   obtain ⟨a,ha,ea⟩:=List.getElem_of_mem m1.1
   obtain ⟨b,hb,eb⟩:=List.getElem_of_mem m2.1
   have hab:=H.one (List.getElem?_eq_getElem ha) (List.getElem?_eq_getElem hb) (by rw [ea,eb];exact g3)
   subst hab
   rw [ea] at eb
   have k1:(inL L)[i].kind=0:=by simpa using m1.2
   have k2:x.kind≠0:=by simpa using m2.2
   exact k2 (by rw [← eb];exact k1)
 unfold valV
 rw [hi,hj']
structure Both2 (ts:List Tk) (L:List Dl) (ds:List Dc) (ns:List Nd):Prop where
 N:NamesOk ts L ds
 sp:∀ x∈L,x.kind≠0→Sp ts x.t (x.i+5)∧x.i+5+x.t.len≤ts.length
 decl:∀ x∈L,x.kind≠0→∀ y∈nmD ts x.t (x.i+5) false,0≤findF ds (tkAt ts y.1).text
 dx:All2 (DX ts (bindF ds) ns) ds L
theorem both2 {ts:List Tk} (hF:∀ i,TkF (tkAt ts i)) (hE:∀ i,(tkAt ts i).kind=0→ts.length≤i+1) (L:List Dl) (hL:Spell ts L 0) (hn:namesR ts L=none) :
  Both2 ts L (declsD ts L 0 0 0) ((nodesD ts L 0).map (bindF (declsD ts L 0 0 0))):=by
 obtain ⟨ds,hds⟩:∃ ds,ds=declsD ts L 0 0 0:=⟨_,rfl⟩
 obtain ⟨ns,hns⟩:∃ ns,ns=(nodesD ts L 0).map (bindF ds):=⟨_,rfl⟩
 rw [← hds,← hns]
 have hnm:ds.map Dc.name=L.map (nameD ts):=by rw [hds];exact declsD_names ts L 0 0 0
 have hnames:badNameF ds ns 0 ds=namesR ts L:=by
  have:=names_eq hF hE L hL ds hnm L [] 0 0 0 0 [] [] rfl hL (by omega) (by rw [List.nil_append];exact hds) rfl rfl
  rw [List.nil_append,← hns,← hds] at this
  exact this
 have hdx:All2 (DX ts (bindF ds) ns) ds L:=by
  have:=dx_all ts (bindF ds) L 0 0 0 [] rfl
  rw [List.nil_append,← hns,← hds] at this
  exact this
 rw [hn] at hnames
 have hN:NamesOk ts L ds:=⟨fun j hj=>by have:=badName_own ds 0 hnames j hj;rw [this,Nat.zero_add],dx_two hdx⟩
 have hsp:∀ x∈L,x.kind≠0→Sp ts x.t (x.i+5)∧x.i+5+x.t.len≤ts.length:=by
  intro x hx hk
  obtain ⟨_,h2,h3⟩:=spell_mem _ _ hL x hx
  have hlen:x.len=x.t.len+6:=by unfold Dl.len;rw [if_neg hk]
  refine ⟨?_,by omega⟩
  rcases h3 with ⟨h,_⟩ | ⟨_,_,_,_,_,h,_⟩
  ·exact absurd h hk
  ·exact h
 refine ⟨hN,hsp,?_,hdx⟩
 intro x hx hk y hy
 obtain ⟨k,hk2,rfl⟩:=List.getElem_of_mem hx
 rcases hdx.getOpt k with ⟨_,h2⟩ | ⟨d,z,h1,h2,h3⟩
 ·rw [List.getElem?_eq_getElem hk2] at h2;cases h2
 ·rw [List.getElem?_eq_getElem hk2] at h2
  cases h2
  have hnone:=badName_none ds 0 hnames d (List.mem_of_getElem? h1)
  obtain ⟨o,ho⟩:=h3.some hk
  have hmem:bindF ds (nmNd ts y)∈seg ns d.root d.fin:=by
   rw [ho]
   have:bindF ds (nmNd ts y)∈(((flat ts (L[k]'hk2).t ((L[k]'hk2).i+5) 0 o).map (bindF ds)).filter fun n=>n.kind == 2):=by
    rw [bind_filter,flat_names hF _ _ _ _ (hsp _ hx hk).1]
    exact List.mem_map.2 ⟨_,List.mem_map.2 ⟨y,hy,rfl⟩,rfl⟩
   exact (List.mem_filter.1 this).1
  have:=badNode_none _ hnone _ hmem (by rw [bind_nm];rfl)
  rw [bind_nm] at this
  exact this
theorem seg_get {ns:List Nd}{a b i:Nat} (h1:a≤i) (h2:i<b):(seg ns a b)[i - a]? = ns[i]?:=by
 unfold seg
 rw [List.getElem?_take,if_pos (by omega),List.getElem?_drop,Nat.add_sub_cancel' h1]
theorem mark_of {ds:List Dc}{ns:List Nd}{a i:Nat}{d:Dc}{n:Nd} (hd:ds[a]? = some d) (hn:ns[i]? = some n) (h1:d.root≤i) (h2:i<d.fin) (hk:n.kind=2) (hl:n.delayed=false) (hq:kindAt ds n.decl≠0):markAll ds ns 0 ds noM a n.decl.toNat=true:=by
 rw [markAll_eq,Nat.sub_zero,hd,Option.any_some]
 have:((seg ns d.root d.fin).any fun m=>m.kind == 2 && (!m.delayed && (kindAt ds m.decl != 0 && m.decl.toNat == n.decl.toNat)))=true:=by
  rw [List.any_eq_true]
  refine ⟨n,List.mem_of_getElem? ((seg_get h1 h2).trans hn),?_⟩
  simp [hk,hl,hq]
 rw [this];simp
theorem ranked_of {ts:List Tk}{L:List Dl} (H:Right ts L) {ds:List Dc}{ns:List Nd} (hB:Both2 ts L ds ns):Ranked ds (markAll ds ns 0 ds noM) (fun a=>rk ts L (cntE L a)):=by
 have hisE:∀ (a:Nat) (d:Dc),ds[a]? = some d→d.kind≠0→isE L a=true:=fun a d hd hk=>by
  rcases hB.dx.getOpt a with ⟨h1,_⟩ | ⟨d',x,h1,h2,h3⟩
  ·rw [h1] at hd;cases hd
  ·rw [hd] at h1;cases h1
   unfold isE;rw [h2];simp [← h3.kind,hk]
 have hlt:∀ a,isE L a=true→cntE L a<(eqL L).length:=fun a ha=>by
  have h1:=cntE_get L a ha
  cases h2:L[a]? with
  | none=>unfold isE at ha;rw [h2] at ha;simp at ha
  | some x=>rw [h2] at h1;exact (List.getElem?_eq_some_iff.1 h1).1
 constructor
 ·intro a b h
  have ha:isE L a=true:=by
   cases ha:isE L a with
   | true=>rfl
   | false=>rw [mark_none hB.dx a b ha] at h;cases h
  have hb:∃ d,ds[b]? = some d∧d.kind≠0:=by
   rw [markAll_eq,Nat.sub_zero] at h
   simp only [noM,Bool.false_or,Bool.and_eq_true] at h
   cases hd:ds[a]? with
   | none=>rw [hd] at h;simp at h
   | some d=>
    rw [hd,Option.any_some,List.any_eq_true] at h
    obtain ⟨n,_,hn⟩:=h.2
    simp only [Bool.and_eq_true,bne_iff_ne,beq_iff_eq] at hn
    obtain ⟨_,_,h3,h4⟩:=hn
    unfold kindAt at h3
    rw [h4,List.getD_eq_getElem?_getD] at h3
    cases hb:ds[b]? with
    | none=>rw [hb] at h3;exact absurd rfl h3
    | some e=>rw [hb] at h3;exact ⟨e,rfl,h3⟩
  obtain ⟨d,hd,hk⟩:=hb
  refine ⟨?_,d,hd,hk⟩
  have hb:=hisE b d hd hk
  rw [mark_rel H.F hB.N hB.sp hB.decl hB.dx a b ha hb] at h
  exact rk_less H.cyc (hlt b hb) h
 ·intro a d hd hk
  have h1:=hlt a (hisE a d hd hk)
  have h2:=rk_lt H.cyc h1
  have h3:(eqL L).length≤L.length:=List.length_filter_le _ _
  have h4:L.length=ds.length:=hB.dx.len
  show rk ts L (cntE L a)<ds.length
  omega
set_option maxHeartbeats 1000000 in
theorem meant_of {ts:List Tk}{L:List Dl} (H:Right ts L) (hT:typesR ts L=none) (ins:List (List Int)) {ds:List Dc}{ns:List Nd} (hds:ds=declsD ts L 0 0 0) (hns:ns=(nodesD ts L 0).map (bindF ds)) (hB:Both2 ts L ds ns)
  (hcov:∀ i,i<ns.length→∃ d∈ds,d.root≤i∧i<d.fin) (hsg:∀ d∈ds,(d.root=0∧d.fin=0∧d.kind=0)∨(d.root<d.fin∧d.fin≤ns.length)) (hdr:∀ n∈ns,n.kind=2→0≤n.decl∧n.decl<(ds.length:Int)) :
  ∃ NV,Meant ds ns ins NV∧∀ (j:Nat) (d:Dc) (k:Nat),(eqsF ds)[j]? = some d→NV k d.root=sol ts L ins j k:=by
 have hY:=dy_all ts (bindF ds) (valV ts L ins (sol ts L ins)) L 0 0 0 [] (fun _=>[]) rfl (fun _=>rfl)
 simp only [List.nil_append] at hY
 rw [← hds,← hns] at hY
 have hat:∀ (a:Nat) (d:Dc),ds[a]? = some d→∃ x,L[a]? = some x∧DY ts (bindF ds) ns (valV ts L ins (sol ts L ins)) (fun k=>valsD ts (valV ts L ins (sol ts L ins)) k L) d x:=fun a d hd=>by
  rcases hY.getOpt a with ⟨h1,_⟩ | ⟨d',x,h1,h2,h3⟩
  ·rw [h1] at hd;cases hd
  ·rw [hd] at h1;cases h1;exact ⟨x,h2,h3⟩
 have hnum:∀ (a:Nat) (d:Dc) (x:Dl),ds[a]? = some d→L[a]? = some x→(x.kind=0→∃ m,d.number=m∧(inL L)[m]? = some x)∧(x.kind≠0→∃ m,d.number=m∧(eqL L)[m]? = some x):=fun a d x h1 h2=>by
  rw [hds] at h1
  have:=decls_num ts L 0 0 0 a d x h1 h2
  simpa only [Nat.zero_add] using this
 have hmemE:∀ (a:Nat) (x:Dl),L[a]? = some x→x.kind≠0→x∈eqL L:=fun a x hx hk=>List.mem_filter.2 ⟨List.mem_of_getElem? hx,by simpa using hk⟩
 -- the value at the root of an equation
 have hroot:∀ (a:Nat) (d:Dc) (x:Dl) (m k:Nat),ds[a]? = some d→L[a]? = some x→x.kind≠0→(eqL L)[m]? = some x→(valsD ts (valV ts L ins (sol ts L ins)) k L).getD d.root 0=sol ts L ins m k:=fun a d x m k h1 h2 hk hm=>by
  obtain ⟨x',h3,h4⟩:=hat a d h1
  rw [h2] at h3;cases h3
  obtain ⟨hm1,hm2⟩:=List.getElem?_eq_some_iff.1 hm
  rw [flatV_head (h4.vals hk k),sol_eq H.toEqs m k hm1,hm2]
 refine ⟨fun k i=>(valsD ts (valV ts L ins (sol ts L ins)) k L).getD i 0,⟨?_,?_,?_,?_,?_,hdr,?_⟩,?_⟩
 ·intro i hi
  obtain ⟨d,hd,h1,h2⟩:=hcov i hi
  obtain ⟨a,ha,rfl⟩:=List.getElem_of_mem hd
  obtain ⟨x,hx,hy⟩:=hat a _ (List.getElem?_eq_getElem ha)
  refine ⟨a,_,List.getElem?_eq_getElem ha,fun e=>?_,h1,h2⟩
  have:=hy.zero (by rw [← hy.kind];exact e)
  omega
 ·intro i n hn k
  have hi:=(List.getElem?_eq_some_iff.1 hn).1
  obtain ⟨d,hd,h1,h2⟩:=hcov i hi
  obtain ⟨a,ha,rfl⟩:=List.getElem_of_mem hd
  obtain ⟨x,hx,hy⟩:=hat a _ (List.getElem?_eq_getElem ha)
  have hk:x.kind≠0:=fun e=>by have:=hy.zero e;omega
  have hf:=hy.fin hk
  have hxe:=hmemE a x hx hk
  obtain ⟨hs,hl⟩:=H.sp x hxe
  have hw:wrongR ts L x.t (x.i+5) (wB (x.kind == 2))=none:=by
   have:=hT
   unfold typesR at this
   rw [List.findSome?_eq_none_iff] at this
   exact this x hxe
  have hX:=hy.vals hk
  have hlt:i - ds[a].root<(flat ts x.t (x.i+5) 0 ds[a].root).length:=by
   rw [flat_len]
   have h1':=h1
   have h2':=h2
   rw [hf] at h2'
   generalize ds[a].root=rr at *
   omega
  have key:=flat_val H.F (L:=L) (ds:=ds) (ins:=ins) (V:=valV ts L ins (sol ts L ins)) (k:=k) (X:=fun i=>(valsD ts (valV ts L ins (sol ts L ins)) k L).getD i 0) (Y:=fun i=>(valsD ts (valV ts L ins (sol ts L ins)) (k - 1) L).getD i 0) (val_bit H (fun j n x hx hk=>sol_bit H hT j n x hx hk)) x.t (x.i+5) 0 ds[a].root (wB (x.kind == 2)) hs hl hw ?_ (hX k) (fun _=>hX (k - 1))
  ·rw [allAt_get] at key
   obtain ⟨n',hn'⟩:∃ n',(flat ts x.t (x.i+5) 0 ds[a].root)[i - ds[a].root]? = some n':=⟨_,List.getElem?_eq_getElem hlt⟩
   have h3:=(allAt_get _ _).1 (hy.nodes hk) _ _ hn'
   rw [Nat.add_sub_cancel' h1,hn] at h3
   cases h3
   have:=key _ _ hn'
   rw [Nat.add_sub_cancel' h1] at this
   exact this
  ·intro j hj
   have hjl:=nms_lt x.t _ j hj
   obtain ⟨z,hz,he⟩:=H.decl j (by omega) (nms_nm x.t _ j hj)
   have hfd:0≤findF ds (tkAt ts j).text:=by
    rw [nms_nmD ts x.t _ false] at hj
    obtain ⟨y,hy,rfl⟩:=List.mem_map.1 hj
    exact hB.decl x (List.mem_of_getElem? hx) hk y hy
   obtain ⟨b,hb,rfl⟩:=List.getElem_of_mem hz
   have hbd:b<ds.length:=by have:=hB.dx.len;omega
   obtain ⟨z',hz',hyb⟩:=hat b _ (List.getElem?_eq_getElem hbd)
   rw [List.getElem?_eq_getElem hb] at hz'
   cases hz'
   have hfb:findF ds (tkAt ts j).text=(b:Int):=by
    have h5:=hB.N.own b hbd
    rw [findF_name ds (b:=(tkAt ts j).text) (by rw [hyb.name];exact he)] at h5
    exact h5
   have hgd:ds.getD b ⟨0,0,⟨#[]⟩,0,0,0,0⟩=ds[b]:=by rw [List.getD_eq_getElem?_getD,List.getElem?_eq_getElem hbd];rfl
   unfold nameF kindAt numAt rootAt
   rw [hfb]
   simp only [Int.toNat_natCast]
   rw [hgd,hyb.kind]
   have hnb:=hnum b ds[b] L[b] (List.getElem?_eq_getElem hbd) (List.getElem?_eq_getElem hb)
   by_cases hkb:L[b].kind=0
   ·rw [if_pos hkb]
    obtain ⟨m,hm,hg⟩:=hnb.1 hkb
    rw [← he,val_in H hg,hm]
   ·rw [if_neg hkb]
    obtain ⟨m,hm,hg⟩:=hnb.2 hkb
    rw [← he,val_eq H hg]
    exact (hroot b _ _ m k (List.getElem?_eq_getElem hbd) (List.getElem?_eq_getElem hb) hkb hg).symm
 ·intro a d hd hk i n hn h1 h2 c hc
  obtain ⟨x,hx,hy⟩:=hat a d hd
  have hkx:x.kind≠0:=by rw [← hy.kind];exact hk
  have hf:=hy.fin hkx
  have hD:AllAt (fun j n=>dlAt ns j=n.delayed) d.root (flat ts x.t (x.i+5) 0 d.root):=by
   refine AllAt.mono (fun j m h=>?_) _ _ (hy.nodes hkx)
   unfold dlAt
   rw [h]
   show (bindF ds m).delayed=_
   unfold bindF;split <;> rfl
  have key:=flat_kids x.t (x.i+5) 0 d.root d.fin (by omega) hD
  obtain ⟨n',hn'⟩:∃ n',(flat ts x.t (x.i+5) 0 d.root)[i - d.root]? = some n':=⟨_,List.getElem?_eq_getElem (by rw [flat_len];omega)⟩
  have h3:=(allAt_get _ _).1 (hy.nodes hkx) _ _ hn'
  rw [Nat.add_sub_cancel' h1,hn] at h3
  cases h3
  have e1:needs (bindF ds n')=needs n':=by
   obtain ⟨k1,k2,k3,k4⟩:=bindF_keep ds n'
   unfold needs;rw [k1,k2,k3,k4]
  have e2:(bindF ds n').delayed=n'.delayed:=by unfold bindF;split <;> rfl
  rw [e1] at hc
  rw [e2]
  have:=(allAt_get _ _).1 key _ _ hn' c hc
  rw [Nat.add_sub_cancel' h1] at this
  exact this
 ·intro a d hd hk
  obtain ⟨x,hx,hy⟩:=hat a d hd
  have hkx:x.kind≠0:=by rw [← hy.kind];exact hk
  obtain ⟨n,l,e,hn⟩:=flat_head x.t (x.i+5) 0 d.root (ts:=ts)
  have h:=hy.nodes hkx
  rw [e] at h
  have h1:=h.1
  refine ⟨(List.getElem?_eq_some_iff.1 h1).1,?_⟩
  unfold dlAt
  rw [h1]
  show (bindF ds n).delayed=false
  have:(bindF ds n).delayed=n.delayed:=by unfold bindF;split <;> rfl
  rw [this,hn];rfl
 ·intro a d hd hk
  rcases hsg d (List.mem_of_getElem? hd) with ⟨_,_,h⟩ | h
  ·exact absurd h hk
  ·exact h
 ·intro a d hd _ i n hn h1 h2 hk hl hq
  exact mark_of hd hn h1 h2 hk hl hq
 ·intro j d k hj
  have hmem:=List.mem_of_getElem? hj
  have hE:All2 (DY ts (bindF ds) ns (valV ts L ins (sol ts L ins)) (fun k=>valsD ts (valV ts L ins (sol ts L ins)) k L)) (eqsF ds) (eqL L):=All2.filter (fun d x h=>by rw [h.kind]) hY
  rcases hE.getOpt j with ⟨h1,_⟩ | ⟨d',x,h1,h2,h3⟩
  ·rw [h1] at hj;cases hj
  ·rw [hj] at h1;cases h1
   obtain ⟨hm1,hm2⟩:=List.getElem?_eq_some_iff.1 h2
   have hk:x.kind≠0:=by simpa using (List.mem_filter.1 (List.mem_of_getElem? h2)).2
   show (valsD ts (valV ts L ins (sol ts L ins)) k L).getD d.root 0=_
   rw [flatV_head (h3.vals hk k),sol_eq H.toEqs j k hm1,hm2]
theorem mem_routeTo {ts:List Tk}{L:List Dl}{b:Nat}{x:Dl}{r:Rt}:∀ n,r∈routeTo ts L b x n↔∃ q,q<n∧r∈routeAt ts L b x q:=by
 intro n
 induction n with
 | zero=>simp [routeTo]
 | succ n ih=>
  simp only [routeTo,List.mem_append,ih]
  constructor
  ·rintro (⟨q,h1,h2⟩ | h)
   ·exact ⟨q,by omega,h2⟩
   ·exact ⟨n,by omega,h⟩
  ·rintro ⟨q,h1,h2⟩
   by_cases e:q=n
   ·subst e;exact .inr h2
   ·exact .inl ⟨q,by omega,h2⟩
theorem mem_routesFrom {ts:List Tk}{L:List Dl}{r:Rt}:∀ (l:List Dl) (b:Nat),r∈routesFrom ts L b l↔∃ m x q,l[m]? = some x∧q<4∧r∈routeAt ts L (b+m) x q:=by
 intro l
 induction l with
 | nil=>intro b;simp [routesFrom]
 | cons y l ih=>
  intro b
  simp only [routesFrom,List.mem_append,ih,mem_routeTo]
  constructor
  ·rintro (⟨q,h1,h2⟩ | ⟨m,x,q,h1,h2,h3⟩)
   ·exact ⟨0,y,q,rfl,h1,h2⟩
   ·exact ⟨m+1,x,q,h1,h2,by rw [show b+(m+1)=b+1+m by omega];exact h3⟩
  ·rintro ⟨m,x,q,h1,h2,h3⟩
   cases m with
   | zero=>
    have e:y=x:=by simpa using h1
    subst e
    exact .inl ⟨q,h2,h3⟩
   | succ m=>exact .inr ⟨m,x,q,h1,h2,by rw [show b+1+m=b+(m+1) by omega];exact h3⟩
theorem mem_routes {ts:List Tk}{L:List Dl}{r:Rt}:r∈routesR ts L↔∃ x,(eqL L)[r.src]? = some x∧r.dst<4∧usesR ts L (nameD ts x).data.toList r.dst≠[]∧r.dst≠placeD ts x∧r.late=lateR ts (usesR ts L (nameD ts x).data.toList r.dst):=by
 unfold routesR
 rw [mem_routesFrom]
 constructor
 ·rintro ⟨m,x,q,h1,h2,h3⟩
  unfold routeAt at h3
  split at h3
  ·rename_i hc
   rw [List.mem_singleton,Nat.zero_add] at h3
   subst h3
   exact ⟨x,h1,h2,hc.1,hc.2,rfl⟩
  ·simp at h3
 ·rintro ⟨x,h1,h2,h3,h4,h5⟩
  refine ⟨r.src,x,r.dst,h1,h2,?_⟩
  unfold routeAt
  rw [if_pos ⟨h3,h4⟩,List.mem_singleton,Nat.zero_add,← h5]
theorem wFind_some {lk:List Rt}{num:Nat}{r:Rt} (hr:r∈lk) (hs:r.src=num):∃ m r',wFind lk num=(m,r'.late)∧lk[m]? = some r'∧r'.src=num:=by
 unfold wFind
 cases h:lk.findIdx? (fun r=>r.src == num) with
 | none=>rw [List.findIdx?_eq_none_iff] at h;have:=h r hr;rw [hs] at this;simp at this
 | some m=>
  obtain ⟨h1,h2,_⟩:=List.findIdx?_eq_some_iff_getElem.1 h
  refine ⟨m,lk[m],?_,List.getElem?_eq_getElem h1,by simpa using h2⟩
  show (m,((lk[m]?).map Rt.late).getD false)=_
  rw [List.getElem?_eq_getElem h1];rfl
theorem wFind_none {lk:List Rt}{num:Nat} (h:∀ r∈lk,r.src≠num):wFind lk num=(0,false):=by
 unfold wFind
 rw [List.findIdx?_eq_none_iff.2 (fun r hr=>by simpa using h r hr)]
theorem leafB_name {ts:List Tk} (hF:∀ i,TkF (tkAt ts i)) {ds:List Dc}{pl:Int}{lk:List Rt}{rs:List Nat}{j dl:Nat} (hk:(tkAt ts j).kind=1) :
  (leafB ⟨ts,ds,pl,lk,rs⟩ j dl).kind=2∧(leafB ⟨ts,ds,pl,lk,rs⟩ j dl).decl=findF ds (tkAt ts j).text:=by
 unfold leafB
 show (bindF ds (mkN ts j dl (leafN0 (tkAt ts j)))).kind=2∧(bindF ds (mkN ts j dl (leafN0 (tkAt ts j)))).decl=_
 rw [leafN0_name (hF j) hk]
 unfold bindF
 rw [if_pos (by rfl)]
 exact ⟨rfl,rfl⟩
structure NmD (ts:List Tk) (L:List Dl) (ds:List Dc) (j:Nat) (b:Nat) (z:Dl):Prop where
 zat:L[b]? = some z
 name:(nameD ts z).data.toList=lAt ts j
 find:findF ds (tkAt ts j).text=(b:Int)
 lt:b<ds.length
 kind:kindAt ds (b:Int)=z.kind
 place:z.kind≠0→plAt ds (b:Int)=placeD ts z
 inp:z.kind=0→(inL L)[numAt ds (b:Int)]? = some z
 eqn:z.kind≠0→(eqL L)[numAt ds (b:Int)]? = some z
theorem dc_of {ts:List Tk}{L:List Dl}{ds:List Dc}{ns:List Nd} (hds:ds=declsD ts L 0 0 0) (hB:Both2 ts L ds ns) {b:Nat}{z:Dl} (hz:L[b]? = some z) :
  ∃ d,ds[b]? = some d∧b<ds.length∧kindAt ds (b:Int)=z.kind∧d.kind=z.kind∧d.name=nameD ts z∧(z.kind≠0→plAt ds (b:Int)=placeD ts z∧d.place=placeD ts z)∧(z.kind=0→(inL L)[numAt ds (b:Int)]? = some z)∧(z.kind≠0→(eqL L)[numAt ds (b:Int)]? = some z)∧rootAt ds (b:Int)=d.root:=by
 rcases hB.dx.getOpt b with ⟨_,h2⟩ | ⟨d,x,h1,h2,h3⟩
 ·rw [hz] at h2;cases h2
 ·rw [hz] at h2;cases h2
  have hlt:=(List.getElem?_eq_some_iff.1 h1).1
  have hg:ds.getD b ⟨0,0,⟨#[]⟩,0,0,0,0⟩=d:=by rw [List.getD_eq_getElem?_getD,h1];rfl
  have hn:=decls_num ts L 0 0 0 b d z (by rw [← hds];exact h1) hz
  unfold kindAt plAt numAt rootAt
  rw [Int.toNat_natCast,hg]
  refine ⟨d,h1,hlt,h3.kind,h3.kind,h3.name,fun hk=>⟨h3.place hk,h3.place hk⟩,fun hk=>?_,fun hk=>?_,rfl⟩
  ·obtain ⟨m,hm,hg⟩:=hn.1 hk;rw [hm,Nat.zero_add];exact hg
  ·obtain ⟨m,hm,hg⟩:=hn.2 hk;rw [hm,Nat.zero_add];exact hg
theorem nm_decl {ts:List Tk}{L:List Dl} (H:Right ts L) {ds:List Dc}{ns:List Nd} (hds:ds=declsD ts L 0 0 0) (hB:Both2 ts L ds ns) {j:Nat} (hj:j<ts.length) (hn:isNm ts j=true):∃ b z,NmD ts L ds j b z:=by
 obtain ⟨z,hz,he⟩:=H.decl j hj hn
 obtain ⟨b,hb,rfl⟩:=List.getElem_of_mem hz
 obtain ⟨d,h1,h2,h3,h4,h5,h6,h7,h8,_⟩:=dc_of hds hB (List.getElem?_eq_getElem hb)
 have hf:findF ds (tkAt ts j).text=(b:Int):=by
  have h9:=hB.N.own b h2
  have h10:ds[b]=d:=by have:=(List.getElem?_eq_some_iff.1 h1);exact this.2
  rw [h10,findF_name ds (b:=(tkAt ts j).text) (by rw [h5];exact he)] at h9
  exact h9
 exact ⟨b,L[b],List.getElem?_eq_getElem hb,he,hf,h2,h3,fun hk=>(h6 hk).1,h7,h8⟩
def toPl (pl:Int) (l:List Rt):List Rt:=l.filter fun r=>((r.dst:Nat):Int) == pl
theorem mem_toPl {pl:Int}{l:List Rt}{r:Rt}:r∈toPl pl l↔r∈l∧((r.dst:Nat):Int)=pl:=by
 unfold toPl;rw [List.mem_filter];simp
theorem elem_at {n:Nat}{f:Nat→Int}{i:Nat} (h:i<n):atF ((List.range n).map f) (i:Int)=f i:=by
 rw [atF_nat,List.getD_eq_getElem?_getD,List.getElem?_map,List.getElem?_range h];rfl
theorem nm_ok {ts:List Tk}{L:List Dl} (H:Right ts L) {ds:List Dc}{ns:List Nd} (hds:ds=declsD ts L 0 0 0) (hB:Both2 ts L ds ns) (hp4:∀ x∈eqL L,placeD ts x<4) (ins:List (List Int)) (junk:Int) (pl:Int) (rs:List Nat) {x:Dl} (hx:x∈eqL L) (hpl:((placeD ts x:Nat):Int)=pl) {j:Nat} (hj:j∈nms ts x.t (x.i+5)) :
  NmA ⟨ts,ds,pl,toPl pl (routesR ts L),rs⟩ (valV ts L ins (sol ts L ins)) (nowL L ins) (fun k=>givenR ts L (sol ts L ins) pl k junk) j:=by
 obtain ⟨hs,hl⟩:=H.sp x hx
 have hjl:=nms_lt x.t _ j hj
 have hjn:=nms_nm x.t _ j hj
 have hk1:(tkAt ts j).kind=1:=by unfold isNm at hjn;simpa using hjn
 obtain ⟨b,z,hD⟩:=nm_decl H hds hB (by omega) hjn
 obtain ⟨k2,kd⟩:=leafB_name H.F (ds:=ds) (pl:=pl) (lk:=toPl pl (routesR ts L)) (rs:=rs) (j:=j) (dl:=0) hk1
 rw [hD.find] at kd
 -- uses
 have huse:j∈usesR ts L (nameD ts z).data.toList (placeD ts x):=by
  unfold usesR
  rw [List.mem_flatMap]
  refine ⟨x,hx,?_⟩
  rw [if_pos rfl]
  unfold useOf
  rw [List.mem_filter,List.mem_range'_1]
  exact ⟨⟨by omega,by omega⟩,by rw [hjn,hD.name];simp⟩
 -- the link of another place's equation
 have hoth:z.kind≠0→((placeD ts z:Nat):Int)≠pl→∃ m r,wLink ⟨ts,ds,pl,toPl pl (routesR ts L),rs⟩ (leafB ⟨ts,ds,pl,toPl pl (routesR ts L),rs⟩ j 0)=(m,r.late)∧(toPl pl (routesR ts L))[m]? = some r∧r.src=numAt ds (b:Int)∧r.late=lateR ts (usesR ts L (nameD ts z).data.toList (placeD ts x)):=fun hz hne=>by
  have hmem:(⟨numAt ds (b:Int),placeD ts x,lateR ts (usesR ts L (nameD ts z).data.toList (placeD ts x))⟩:Rt)∈toPl pl (routesR ts L):=by
   rw [mem_toPl,mem_routes]
   refine ⟨⟨z,hD.eqn hz,hp4 x hx,fun e=>by rw [e] at huse;simp at huse,fun e=>hne (by rw [← e];exact hpl),rfl⟩,hpl⟩
  obtain ⟨m,r,h1,h2,h3⟩:=wFind_some hmem (num:=numAt ds (b:Int)) rfl
  refine ⟨m,r,?_,h2,h3,?_⟩
  ·unfold wLink
   rw [if_neg (by rw [k2,kd,hD.kind];simp [hz]),kd]
   exact h1
  ·have hr:=mem_toPl.1 (List.mem_of_getElem? h2)
   obtain ⟨z',g1,_,_,_,g5⟩:=mem_routes.1 hr.1
   rw [h3,hD.eqn hz] at g1
   cases g1
   rw [g5]
   have:r.dst=placeD ts x:=by have:=hr.2;rw [← hpl] at this;omega
   rw [this]
 have hval:∀ (m:Nat) (r:Rt) (k:Nat),(toPl pl (routesR ts L))[m]? = some r→atF (givenR ts L (sol ts L ins) pl k junk) (m:Int)=givF (sol ts L ins) k junk r:=fun m r k hm=>by
  unfold givenR givL
  rw [atF_nat,List.getD_eq_getElem?_getD,List.getElem?_map]
  show (((toPl pl (routesR ts L))[m]?).map _).getD 0=_
  rw [hm];rfl
 refine ⟨?_,?_,?_,?_,?_⟩
 ·intro hk k
  rw [kd,hD.kind] at hk
  have hin:=hD.inp hk
  rw [kd]
  show atF (nowL L ins k) _=valV ts L ins (sol ts L ins) (lAt ts j) k
  rw [← hD.name,val_in H hin]
  unfold nowL
  exact elem_at (List.getElem?_eq_some_iff.1 hin).1
 ·intro hk hne hlt k
  rw [kd,hD.kind] at hk
  rw [kd,hD.place hk] at hne
  obtain ⟨m,r,h1,h2,h3,h4⟩:=hoth hk hne
  rw [h1] at hlt ⊢
  show atF (givenR ts L (sol ts L ins) pl k junk) (m:Int)=valV ts L ins (sol ts L ins) (lAt ts j) k
  rw [hval m r k h2,← hD.name,val_eq H (hD.eqn hk)]
  unfold givF
  rw [if_pos hlt,h3]
 ·intro hk hne hlt k
  rw [kd,hD.kind] at hk
  rw [kd,hD.place hk] at hne
  obtain ⟨m,r,h1,h2,h3,h4⟩:=hoth hk hne
  rw [h1] at hlt ⊢
  show atF (givenR ts L (sol ts L ins) pl (k+1) junk) (m:Int)=valV ts L ins (sol ts L ins) (lAt ts j) k
  rw [hval m r (k+1) h2,← hD.name,val_eq H (hD.eqn hk)]
  unfold givF
  rw [if_neg (by rw [show r.late=true from hlt];decide),if_pos (by omega),h3,Nat.add_sub_cancel]
 ·intro hk he
  rw [kd,hD.kind] at hk
  rw [kd,hD.place hk] at he
  unfold wLink
  rw [if_neg (by rw [k2,kd,hD.kind];simp [hk]),kd]
  rw [wFind_none (fun r hr e=>?_)]
  have hr:=mem_toPl.1 hr
  obtain ⟨z',g1,_,_,g4,_⟩:=mem_routes.1 hr.1
  rw [e,hD.eqn hk] at g1
  cases g1
  have he':((placeD ts z:Nat):Int)=pl:=he
  have:=hr.2
  omega
 ·intro hne
  by_cases hz:z.kind=0
  ·unfold wLink;rw [if_pos (.inr (by rw [kd,hD.kind];exact hz))]
  ·by_cases he:((placeD ts z:Nat):Int)=pl
   ·unfold wLink
    rw [if_neg (by rw [k2,kd,hD.kind];simp [hz]),kd]
    rw [wFind_none (fun r hr e=>?_)]
    have hr:=mem_toPl.1 hr
    obtain ⟨z',g1,_,_,g4,_⟩:=mem_routes.1 hr.1
    rw [e,hD.eqn hz] at g1
    cases g1
    have:=hr.2
    omega
   ·obtain ⟨m,r,h1,h2,h3,h4⟩:=hoth hz he
    rw [h1,h4]
    show lateR ts _=false
    unfold lateR
    rw [List.all_eq_false]
    exact ⟨j,huse,by simpa using hne⟩
end Go.Proofs.YtecegaflhdgfaaaGreat
