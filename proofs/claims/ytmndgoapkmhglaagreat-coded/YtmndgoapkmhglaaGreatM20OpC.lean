import Derived.Test.YtmndgoapkmhglaaGreatM00Base
import Derived.Test.YtmndgoapkmhglaaGreatM18AstN
namespace Go.Proofs.YtmndgoapkmhglaaGreat
theorem warsh_up (M:Mx) (i j:Nat) (h:M i j=true):∀ n,warsh M n i j=true:=by
 intro n
 induction n with
 | zero=>exact h
 | succ n ih=>show phase (warsh M n) n i j=true;unfold phase;rw [ih];rfl
theorem warsh_trans (M:Mx):∀ n k i j,k<n→warsh M n i k=true→warsh M n k j=true→warsh M n i j=true:=by
 intro n
 induction n with
 | zero=>intro k i j h;omega
 | succ n ih=>
  intro k i j hk h1 h2
  change phase (warsh M n) n i k=true at h1
  change phase (warsh M n) n k j=true at h2
  show phase (warsh M n) n i j=true
  unfold phase at *
  simp only [Bool.or_eq_true,Bool.and_eq_true] at *
  by_cases e:k=n
  ·subst e
   have a1:warsh M k i k=true:=h1.elim id And.left
   have a2:warsh M k k j=true:=h2.elim id And.right
   exact .inr ⟨a1,a2⟩
  ·have hk':k<n:=by omega
   rcases h1 with a | ⟨a1,a2⟩ <;> rcases h2 with b | ⟨b1,b2⟩
   ·exact .inl (ih k i j hk' a b)
   ·exact .inr ⟨ih k i n hk' a b1,b2⟩
   ·exact .inr ⟨a1,ih k n j hk' a2 b⟩
   ·exact .inr ⟨a1,b2⟩
theorem filter_lt {p q:Nat→Bool}:∀ (l:List Nat),(∀ x∈l,p x=true→q x=true)→(∃ x∈l,q x=true∧p x=false)→(l.filter p).length<(l.filter q).length:=by
 have le:∀ (l:List Nat),(∀ x∈l,p x=true→q x=true)→(l.filter p).length≤(l.filter q).length:=by
  intro l
  induction l with
  | nil=>intro _;exact Nat.le_refl _
  | cons a r ih=>
   intro h
   have ih':=ih fun x hx=>h x (List.mem_cons_of_mem _ hx)
   have ha:=h a (by simp)
   simp only [List.filter_cons]
   cases hp:p a <;> cases hq:q a
   ·simpa using ih'
   ·simp;omega
   ·rw [ha hp] at hq;cases hq
   ·simp;omega
 intro l
 induction l with
 | nil=>rintro _ ⟨x,hx,_⟩;simp at hx
 | cons a r ih=>
  rintro h ⟨x,hx,hqx,hpx⟩
  have h':=fun x hx=>h x (List.mem_cons_of_mem a hx)
  have ha:=h a (by simp)
  have hle:=le r h'
  simp only [List.filter_cons]
  rcases List.mem_cons.1 hx with rfl | hx
  ·rw [hqx,hpx];simp;omega
  ·have:=ih h' ⟨x,hx,hqx,hpx⟩
   cases hp:p a <;> cases hq:q a
   ·simpa using this
   ·simp;omega
   ·rw [ha hp] at hq;cases hq
   ·simp;omega
def rankM (M:Mx) (m i:Nat):Nat:=((List.range m).filter (warsh M m i)).length
theorem rank_lt {M:Mx}{m i:Nat} (hc:warsh M m i i=false) (hi:i<m):rankM M m i<m:=by
 have h:=filter_lt (p:=warsh M m i) (q:=fun _=>true) (List.range m) (fun _ _ _=>rfl) ⟨i,by simpa using hi,rfl,hc⟩
 have e:((List.range m).filter fun _=>true).length=m:=by rw [List.filter_eq_self.2 (fun _ _=>rfl),List.length_range]
 unfold rankM
 omega
theorem rank_less {M:Mx}{m i j:Nat} (hj:j<m) (hc:warsh M m j j=false) (h:M i j=true):rankM M m j<rankM M m i:=by
 have hij:=warsh_up M i j h m
 exact filter_lt (List.range m) (fun x _ hx=>warsh_trans M m j i x hj hij hx) ⟨j,by simpa using hj,hij,hc⟩
theorem firstC_none {ts:List Tk}{W:Mx}:∀ (l:List Dl) (i:Nat),firstC ts W i l=none→∀ k,k<l.length→W (i+k) (i+k)=false:=by
 intro l
 induction l with
 | nil=>intro i _ k hk;simp at hk
 | cons x r ih=>
  intro i h k hk
  unfold firstC at h
  cases hw:W i i with
  | true=>rw [if_pos hw] at h;cases h
  | false=>
   rw [if_neg (by rw [hw];decide)] at h
   cases k with
   | zero=>exact hw
   | succ k=>have:=ih (i+1) h k (by simpa using hk);rwa [show i+1+k=i+(k+1) by omega] at this
def rk (ts:List Tk) (L:List Dl) (i:Nat):Nat:=rankM (relR ts L) (eqL L).length i
theorem rk_lt {ts:List Tk}{L:List Dl} (h:cycR ts L=none) {i:Nat} (hi:i<(eqL L).length):rk ts L i<(eqL L).length:=
 rank_lt (by have:=firstC_none _ _ h i hi;rwa [Nat.zero_add] at this) hi
theorem rk_less {ts:List Tk}{L:List Dl} (h:cycR ts L=none) {i j:Nat} (hj:j<(eqL L).length) (hr:relR ts L i j=true):rk ts L j<rk ts L i:=
 rank_less hj (by have:=firstC_none _ _ h j hj;rwa [Nat.zero_add] at this) hr
def w64 (x:Int):Int:=Go.RowKit.wrap64 x
def b2i (b:Bool):Int:=if b then 1 else 0
def apF (o:List UInt8) (a b:Int):Int:=
 if o=[43] then w64 (a+b) else if o=[45] then w64 (a - b) else if o=[42] then w64 (a * b)
 else if o=[47] then (if b=0 then 0 else w64 (a.tdiv b)) else if o=[60] then b2i (decide (a<b)) else if o=[61] then b2i (decide (a=b))
 else if o=[38] then b2i (decide (a=1) && decide (b=1)) else b2i (decide (a=1) || decide (b=1))
def litV (t:Tk):Int:=if t.kind=3 then (valOf t.l:Int) else b2i (decide (t.l=kTrue))
def evT (ts:List Tk) (V:List UInt8→Nat→Int):Ast→Nat→Nat→Int
 | .leaf,i,n=>if (tkAt ts i).kind=1 then V (lAt ts i) n else litV (tkAt ts i)
 | .neg a,i,n=>w64 (1 - evT ts V a (i+2) n)
 | .ite a b c,i,n=>if evT ts V a (i+2) n=1 then evT ts V b (i+2+a.len) n else evT ts V c (i+2+a.len+b.len) n
 | .dly _,i,0=>litV (tkAt ts (i+1))
 | .dly b,i,n+1=>evT ts V b (i+3) n
 | .bin a b,i,n=>apF (lAt ts (i+1+a.len)) (evT ts V a (i+1) n) (evT ts V b (i+2+a.len) n)
def und (ts:List Tk):Ast→Nat→List Nat
 | .leaf,i=>if (tkAt ts i).kind=1 then [i] else []
 | .neg a,i=>und ts a (i+2)
 | .ite a b c,i=>und ts a (i+2) ++ (und ts b (i+2+a.len) ++ und ts c (i+2+a.len+b.len))
 | .dly _,_=>[]
 | .bin a b,i=>und ts a (i+1) ++ und ts b (i+2+a.len)
def nms (ts:List Tk):Ast→Nat→List Nat
 | .leaf,i=>if (tkAt ts i).kind=1 then [i] else []
 | .neg a,i=>nms ts a (i+2)
 | .ite a b c,i=>nms ts a (i+2) ++ (nms ts b (i+2+a.len) ++ nms ts c (i+2+a.len+b.len))
 | .dly b,i=>nms ts b (i+3)
 | .bin a b,i=>nms ts a (i+1) ++ nms ts b (i+2+a.len)
theorem und_nms (ts:List Tk):∀ (t:Ast) (i:Nat),∀ j∈und ts t i,j∈nms ts t i:=by
 intro t
 induction t with
 | leaf=>intro i j h;exact h
 | neg a iha=>intro i j h;exact iha _ j h
 | ite a b c iha ihb ihc=>
  intro i j h
  simp only [und,nms,List.mem_append] at *
  exact h.imp (iha _ j) (Or.imp (ihb _ j) (ihc _ j))
 | dly b ihb=>intro i j h;simp [und] at h
 | bin a b iha ihb=>
  intro i j h
  simp only [und,nms,List.mem_append] at *
  exact h.imp (iha _ j) (ihb _ j)
theorem nms_nmD (ts:List Tk):∀ (t:Ast) (i:Nat) (dl:Bool),nms ts t i=(nmD ts t i dl).map Prod.fst:=by
 intro t
 induction t with
 | leaf=>intro i dl;simp only [nms,nmD];split <;> rfl
 | neg a iha=>intro i dl;exact iha _ dl
 | ite a b c iha ihb ihc=>intro i dl;simp only [nms,nmD,List.map_append];rw [iha _ dl,ihb _ dl,ihc _ dl]
 | dly b ihb=>intro i dl;exact ihb _ true
 | bin a b iha ihb=>intro i dl;simp only [nms,nmD,List.map_append];rw [iha _ dl,ihb _ dl]
theorem und_nmD (ts:List Tk):∀ (t:Ast) (i:Nat),∀ j∈und ts t i,(j,false)∈nmD ts t i false:=by
 intro t
 induction t with
 | leaf=>intro i j h;simp only [und,nmD] at *;split at h <;> simp_all
 | neg a iha=>intro i j h;exact iha _ j h
 | ite a b c iha ihb ihc=>
  intro i j h
  simp only [und,nmD,List.mem_append] at *
  exact h.imp (iha _ j) (Or.imp (ihb _ j) (ihc _ j))
 | dly b ihb=>intro i j h;simp [und] at h
 | bin a b iha ihb=>
  intro i j h
  simp only [und,nmD,List.mem_append] at *
  exact h.imp (iha _ j) (ihb _ j)
theorem evT_congr (ts:List Tk) {V V':List UInt8→Nat→Int}:∀ (t:Ast) (i n:Nat),(∀ j∈und ts t i,V (lAt ts j) n=V' (lAt ts j) n)→(∀ w n',n'<n→V w n'=V' w n')→evT ts V t i n=evT ts V' t i n:=by
 intro t
 induction t with
 | leaf=>
  intro i n h _
  unfold evT
  by_cases hk:(tkAt ts i).kind=1
  ·rw [if_pos hk,if_pos hk];exact h i (by unfold und;rw [if_pos hk];simp)
  ·rw [if_neg hk,if_neg hk]
 | neg a iha=>intro i n h h2;simp only [evT];rw [iha _ n h h2]
 | ite a b c iha ihb ihc=>
  intro i n h h2
  simp only [und,List.mem_append] at h
  simp only [evT]
  rw [iha _ n (fun j hj=>h j (.inl hj)) h2,ihb _ n (fun j hj=>h j (.inr (.inl hj))) h2,ihc _ n (fun j hj=>h j (.inr (.inr hj))) h2]
 | dly b ihb=>
  intro i n h h2
  cases n with
  | zero=>rfl
  | succ n=>simp only [evT];exact ihb _ n (fun j _=>h2 _ n (by omega)) (fun w n' hn=>h2 w n' (by omega))
 | bin a b iha ihb=>
  intro i n h h2
  simp only [und,List.mem_append] at h
  simp only [evT]
  rw [iha _ n (fun j hj=>h j (.inl hj)) h2,ihb _ n (fun j hj=>h j (.inr hj)) h2]
def evR (ts:List Tk) (V:List UInt8→Nat→Int × Bool):Ast→Nat→Nat→Int × Bool
 | .leaf,i,n=>if (tkAt ts i).kind=1 then V (lAt ts i) n else (litV (tkAt ts i),true)
 | .neg a,i,n=>(w64 (1 - (evR ts V a (i+2) n).1),(evR ts V a (i+2) n).2)
 | .ite a b c,i,n=>(if (evR ts V a (i+2) n).1=1 then (evR ts V b (i+2+a.len) n).1 else (evR ts V c (i+2+a.len+b.len) n).1,(evR ts V a (i+2) n).2 && ((evR ts V b (i+2+a.len) n).2 && (evR ts V c (i+2+a.len+b.len) n).2))
 | .dly _,i,0=>(litV (tkAt ts (i+1)),true)
 | .dly b,i,n+1=>evR ts V b (i+3) n
 | .bin a b,i,n=>(apF (lAt ts (i+1+a.len)) (evR ts V a (i+1) n).1 (evR ts V b (i+2+a.len) n).1,(evR ts V a (i+1) n).2 && (evR ts V b (i+2+a.len) n).2)
theorem evR_val (ts:List Tk) {V:List UInt8→Nat→Int × Bool}{U:List UInt8→Nat→Int}:∀ (t:Ast) (i n:Nat),(∀ w n',n'≤n→(V w n').2=true→(V w n').1=U w n')→(evR ts V t i n).2=true→(evR ts V t i n).1=evT ts U t i n:=by
 intro t
 induction t with
 | leaf=>
  intro i n h hk
  unfold evR evT at *
  split at hk
  ·rename_i h1;rw [if_pos h1,if_pos h1];exact h _ n (Nat.le_refl _) hk
  ·rename_i h1;rw [if_neg h1,if_neg h1]
 | neg a iha=>intro i n h hk;simp only [evR,evT] at *;rw [iha _ n h hk]
 | ite a b c iha ihb ihc=>
  intro i n h hk
  simp only [evR,evT,Bool.and_eq_true] at *
  rw [iha _ n h hk.1,ihb _ n h hk.2.1,ihc _ n h hk.2.2]
 | dly b ihb=>
  intro i n h hk
  cases n with
  | zero=>rfl
  | succ n=>simp only [evR,evT] at *;exact ihb _ n (fun w n' hn=>h w n' (by omega)) hk
 | bin a b iha ihb=>
  intro i n h hk
  simp only [evR,evT,Bool.and_eq_true] at *
  rw [iha _ n h hk.1,ihb _ n h hk.2]
theorem evR_known (ts:List Tk) {V:List UInt8→Nat→Int × Bool}:∀ (t:Ast) (i n:Nat),(∀ j∈und ts t i,(V (lAt ts j) n).2=true)→(∀ j∈nms ts t i,∀ n',n'<n→(V (lAt ts j) n').2=true)→(evR ts V t i n).2=true:=by
 intro t
 induction t with
 | leaf=>
  intro i n h _
  unfold evR
  by_cases hk:(tkAt ts i).kind=1
  ·rw [if_pos hk];exact h i (by unfold und;rw [if_pos hk];simp)
  ·rw [if_neg hk]
 | neg a iha=>intro i n h h2;simp only [evR];exact iha _ n h h2
 | ite a b c iha ihb ihc=>
  intro i n h h2
  simp only [und,nms,List.mem_append] at h h2
  simp only [evR,Bool.and_eq_true]
  exact ⟨iha _ n (fun j hj=>h j (.inl hj)) (fun j hj=>h2 j (.inl hj)),ihb _ n (fun j hj=>h j (.inr (.inl hj))) (fun j hj=>h2 j (.inr (.inl hj))),ihc _ n (fun j hj=>h j (.inr (.inr hj))) (fun j hj=>h2 j (.inr (.inr hj)))⟩
 | dly b ihb=>
  intro i n h h2
  cases n with
  | zero=>rfl
  | succ n=>simp only [evR];exact ihb _ n (fun j hj=>h2 j (und_nms ts b _ j hj) n (by omega)) (fun j hj n' hn=>h2 j hj n' (by omega))
 | bin a b iha ihb=>
  intro i n h h2
  simp only [und,nms,List.mem_append] at h h2
  simp only [evR,Bool.and_eq_true]
  exact ⟨iha _ n (fun j hj=>h j (.inl hj)) (fun j hj=>h2 j (.inl hj)),ihb _ n (fun j hj=>h j (.inr hj)) (fun j hj=>h2 j (.inr hj))⟩
def nmIs (ts:List Tk) (w:List UInt8) (x:Dl):Bool:=(nameD ts x).data.toList == w
def inIx (ts:List Tk) (L:List Dl) (w:List UInt8):Option Nat:=(inL L).findIdx? (nmIs ts w)
def eqIx (ts:List Tk) (L:List Dl) (w:List UInt8):Option Nat:=(eqL L).findIdx? (nmIs ts w)
def elemF (ins:List (List Int)) (i k:Nat):Int:=(ins.getD i []).getD k 0
def valV (ts:List Tk) (L:List Dl) (ins:List (List Int)) (R:Nat→Nat→Int) (w:List UInt8) (n:Nat):Int:=
 match inIx ts L w with
 | some i=>elemF ins i n
 | none=>match eqIx ts L w with
  | some j=>R j n
  | none=>0
def bodyV (ts:List Tk) (E:List Dl) (V:List UInt8→Nat→Int) (j n:Nat):Int:=
 match E[j]? with
 | some x=>evT ts V x.t (x.i+5) n
 | none=>0
def solF (ts:List Tk) (L:List Dl) (ins:List (List Int)):Nat→Nat→Nat→Int
 | 0,_,_=>0
 | f+1,j,n=>bodyV ts (eqL L) (valV ts L ins (solF ts L ins f)) j n
def sol (ts:List Tk) (L:List Dl) (ins:List (List Int)) (j n:Nat):Int:=solF ts L ins (n * ((eqL L).length+1)+(eqL L).length+1) j n
theorem valV_congr {ts:List Tk}{L:List Dl}{ins:List (List Int)}{R R':Nat→Nat→Int}{w:List UInt8}{n:Nat} (h:∀ j,eqIx ts L w=some j→R j n=R' j n):valV ts L ins R w n=valV ts L ins R' w n:=by
 unfold valV
 cases inIx ts L w with
 | some i=>rfl
 | none=>
  cases he:eqIx ts L w with
  | none=>rfl
  | some j=>exact h j he
theorem eqIx_some {ts:List Tk}{L:List Dl}{w:List UInt8}{j:Nat} (h:eqIx ts L w=some j):∃ x,(eqL L)[j]? = some x∧(nameD ts x).data.toList=w:=by
 obtain ⟨hj,hp,_⟩:=List.findIdx?_eq_some_iff_getElem.1 h
 exact ⟨(eqL L)[j],List.getElem?_eq_getElem hj,by simpa [nmIs] using hp⟩
theorem rel_und {ts:List Tk} (hF:∀ i,TkF (tkAt ts i)) {L:List Dl}{i l j:Nat}{x:Dl} (hx:(eqL L)[i]? = some x) (hs:Sp ts x.t (x.i+5)) (hl:x.i+5+x.t.len≤ts.length) (hj:j∈und ts x.t (x.i+5)) (he:eqIx ts L (lAt ts j)=some l):relR ts L i l=true:=by
 obtain ⟨z,hz,hn⟩:=eqIx_some he
 unfold relR
 rw [hx,hz]
 show hangsR ts x (nameD ts z).data.toList=true
 rw [hangs_nm hF x hs hl,List.any_eq_true]
 exact ⟨(j,false),und_nmD ts _ _ j hj,by simp [hn]⟩
structure Eqs (ts:List Tk) (L:List Dl):Prop where
 F:∀ i,TkF (tkAt ts i)
 sp:∀ x∈eqL L,Sp ts x.t (x.i+5)∧x.i+5+x.t.len≤ts.length
 cyc:cycR ts L=none
section
variable {ts:List Tk} {L:List Dl} {ins:List (List Int)} (H:Eqs ts L)
include H
theorem sol_stable:∀ m f f' j n,j<(eqL L).length→n * ((eqL L).length+1)+rk ts L j≤m→m<f→m<f'→solF ts L ins f j n=solF ts L ins f' j n:=by
 intro m
 induction m using Nat.strongRecOn with
 | ind m ih=>
  intro f f' j n hj hm hf hf'
  obtain ⟨f,rfl⟩:∃ g,f=g+1:=⟨f - 1,by omega⟩
  obtain ⟨f',rfl⟩:∃ g,f'=g+1:=⟨f' - 1,by omega⟩
  have hx:(eqL L)[j]? = some (eqL L)[j]:=List.getElem?_eq_getElem hj
  obtain ⟨hs,hl⟩:=H.sp (eqL L)[j] (List.getElem_mem hj)
  simp only [solF,bodyV,hx]
  refine evT_congr ts _ _ _ (fun k hk=>valV_congr fun l hl'=>?_) (fun w n' hn=>valV_congr fun l hl'=>?_)
  ·have hr:=rel_und H.F hx hs hl hk hl'
   obtain ⟨z,hz,_⟩:=eqIx_some hl'
   have hlt:l<(eqL L).length:=(List.getElem?_eq_some_iff.1 hz).1
   have hrk:=rk_less H.cyc hlt hr
   exact ih (n * ((eqL L).length+1)+rk ts L l) (by omega) f f' l n hlt (Nat.le_refl _) (by omega) (by omega)
  ·obtain ⟨z,hz,_⟩:=eqIx_some hl'
   have hlt:l<(eqL L).length:=(List.getElem?_eq_some_iff.1 hz).1
   have hrk:=rk_lt H.cyc hlt
   have hmul:(n'+1) * ((eqL L).length+1)≤n * ((eqL L).length+1):=Nat.mul_le_mul_right _ (by omega)
   rw [Nat.succ_mul] at hmul
   exact ih (n' * ((eqL L).length+1)+rk ts L l) (by omega) f f' l n' hlt (Nat.le_refl _) (by omega) (by omega)
theorem sol_eq (j n:Nat) (hj:j<(eqL L).length):sol ts L ins j n=evT ts (valV ts L ins (sol ts L ins)) (eqL L)[j].t ((eqL L)[j].i+5) n:=by
 have hx:(eqL L)[j]? = some (eqL L)[j]:=List.getElem?_eq_getElem hj
 obtain ⟨hs,hl⟩:=H.sp (eqL L)[j] (List.getElem_mem hj)
 have hjr:=rk_lt H.cyc hj
 show bodyV ts (eqL L) (valV ts L ins (solF ts L ins (n * ((eqL L).length+1)+(eqL L).length))) j n=_
 simp only [bodyV,hx]
 refine evT_congr ts _ _ _ (fun k hk=>valV_congr fun l hl'=>?_) (fun w n' hn=>valV_congr fun l hl'=>?_)
 ·have hr:=rel_und H.F hx hs hl hk hl'
  obtain ⟨z,hz,_⟩:=eqIx_some hl'
  have hlt:l<(eqL L).length:=(List.getElem?_eq_some_iff.1 hz).1
  have hrk:=rk_less H.cyc hlt hr
  exact sol_stable H (n * ((eqL L).length+1)+rk ts L l) _ _ l n hlt (Nat.le_refl _) (by omega) (by omega)
 ·obtain ⟨z,hz,_⟩:=eqIx_some hl'
  have hlt:l<(eqL L).length:=(List.getElem?_eq_some_iff.1 hz).1
  have hrk:=rk_lt H.cyc hlt
  have hmul:(n'+1) * ((eqL L).length+1)≤n * ((eqL L).length+1):=Nat.mul_le_mul_right _ (by omega)
  rw [Nat.succ_mul] at hmul
  exact sol_stable H (n' * ((eqL L).length+1)+rk ts L l) _ _ l n' hlt (Nat.le_refl _) (by omega) (by omega)
end
theorem text_read (s:ByteArray) (hs:s.size≤1500) :
  (∃ k,k<(toks s).length∧textF s=(2,(tkAt (toks s) k).pos)∧∃ n,Ans (toks s) n [80] 0 0 ((tkAt (toks s) k).pos:Int))∨
  (∃ L,Spell (toks s) L 0∧(∃ n,Ans (toks s) n [80] 0 0 (-1))∧textF s=readR (toks s) L∧∃ p,parseF s = .ok p∧p.decls=declsD (toks s) L 0 0 0∧p.nodes=nodesD (toks s) L 0):=by
 obtain ⟨hok,hbad⟩:=parseA s hs
 unfold textF
 rw [if_neg (by omega)]
 cases hp:parseF s with
 | error k=>
  obtain ⟨h1,h2⟩:=hbad k hp
  exact .inl ⟨k,h1,rfl,h2⟩
 | ok p=>
  obtain ⟨L,h1,h2,h3,h4⟩:=hok p hp
  refine .inr ⟨L,h1,h4,?_,p,rfl,h2,h3⟩
  show meaningF p.decls (boundN p)=_
  unfold boundN
  rw [h2,h3]
  exact meaning_ref (toks_F s) (toks_pos s) (toks_end s) L h1 (toks_ok s hs).pos
structure RGood (s:ByteArray) (L:List Dl):Prop where
 many:manyR (toks s) L=none
 names:namesR (toks s) L=none
 types:typesR (toks s) L=none
 cyc:cycR (toks s) L=none
 lp:lpR (toks s) L=none
 sp:Spell (toks s) L 0
 parse:∃ p,parseF s = .ok p∧p.decls=declsD (toks s) L 0 0 0∧p.nodes=nodesD (toks s) L 0
theorem spell_lt {ts:List Tk}:∀ (L:List Dl) (i:Nat),Spell ts L i→L.Pairwise (fun x y=>x.i+x.len≤y.i):=by
 intro L
 induction L with
 | nil=>intro i _;exact List.Pairwise.nil
 | cons x r ih=>
  intro i h
  obtain ⟨_,h2,_,_,_,h6⟩:=spell_mid (L2:=r) [] i h
  exact List.Pairwise.cons h2 (ih _ h6)
theorem names_at {ts:List Tk}{L:List Dl} (h:namesR ts L=none) {k:Nat} (hk:k<ts.length) (hn:isNm ts k=true):(hereR L k=true→aheadR ts L k=false)∧someR ts L k=true:=by
 unfold namesR at h
 rw [Option.map_eq_none_iff,List.find?_eq_none] at h
 have:=h k (by rw [List.mem_range'_1];omega)
 unfold badNm qNm at this
 rw [hn] at this
 simp at this
 exact this
structure Right (ts:List Tk) (L:List Dl):Prop extends Eqs ts L where
 own:∀ x∈L,∀ y∈L,(nameD ts x).data.toList=(nameD ts y).data.toList→x.i=y.i
 decl:∀ k,k<ts.length→isNm ts k=true→∃ x∈L,(nameD ts x).data.toList=lAt ts k
 pw:L.Pairwise (fun x y=>x.i+x.len≤y.i)
 few:(eqL L).length≤12∧(inL L).length≤4
theorem less_none {a b:Option Nat} (h:less a b=none):a=none∧b=none:=by
 cases a <;> cases b <;> simp_all [less]
theorem right_of {ts:List Tk}{L:List Dl} (hF:∀ i,TkF (tkAt ts i)) (hs:Spell ts L 0) (hm:manyR ts L=none) (hn:namesR ts L=none) (hc:cycR ts L=none):Right ts L:=by
 have hmem:=fun x hx=>(spell_mem L 0 hs x hx).2
 have hnm:∀ x∈L,x.i+1<ts.length∧isNm ts (x.i+1)=true:=fun x hx=>by
  obtain ⟨h1,h2⟩:=hmem x hx
  have:=x.len_pos
  refine ⟨by omega,?_⟩
  unfold isNm
  rcases h2 with ⟨_,_,h,_⟩ | ⟨_,h,_⟩ <;> rw [h] <;> rfl
 have hown:∀ x∈L,∀ y∈L,(nameD ts x).data.toList=(nameD ts y).data.toList→¬ x.i<y.i:=fun x hx y hy he hlt=>by
  obtain ⟨h1,h2⟩:=hnm y hy
  have h3:=(names_at hn h1 h2).1 (by unfold hereR;rw [List.any_eq_true];exact ⟨y,hy,by simp⟩)
  unfold aheadR at h3
  rw [List.any_eq_false] at h3
  refine h3 x hx ?_
  simp only [Bool.and_eq_true,beq_iff_eq,decide_eq_true_eq]
  exact ⟨he,by omega⟩
 have hmany:=less_none hm
 refine { F:=hF,sp:=fun x hx=>?_,cyc:=hc,own:=fun x hx y hy he=>?_,decl:=fun k hk h=>?_,pw:=spell_lt L 0 hs,few:=⟨?_,?_⟩ }
 ·have hm':=List.mem_filter.1 hx
  have hk:x.kind≠0:=by simpa using hm'.2
  obtain ⟨h1,h2⟩:=hmem x hm'.1
  have hl:x.len=x.t.len+6:=by unfold Dl.len;rw [if_neg hk]
  rcases h2 with ⟨h,_⟩ | ⟨_,_,_,_,_,h,_⟩
  ·exact absurd h hk
  ·exact ⟨h,by omega⟩
 ·have a:=hown x hx y hy he
  have b:=hown y hy x hx he.symm
  omega
 ·have h3:=(names_at hn hk h).2
  unfold someR at h3
  rw [List.any_eq_true] at h3
  obtain ⟨x,hx,he⟩:=h3
  exact ⟨x,hx,by simpa using he⟩
 ·have:=hmany.1
  rw [Option.map_eq_none_iff,List.getElem?_eq_none_iff] at this
  exact this
 ·have:=hmany.2
  rw [Option.map_eq_none_iff,List.getElem?_eq_none_iff] at this
  exact this
theorem nms_lt {ts:List Tk} (t:Ast) (i:Nat):∀ j∈nms ts t i,i≤j∧j<i+t.len:=by
 intro j hj
 rw [nms_nmD ts t i false] at hj
 obtain ⟨x,hx,rfl⟩:=List.mem_map.1 hj
 exact nm_in t i false x hx
theorem nms_nm {ts:List Tk}:∀ (t:Ast) (i:Nat),∀ j∈nms ts t i,isNm ts j=true:=by
 intro t
 induction t with
 | leaf=>
  intro i j h
  unfold nms at h
  split at h
  ·rename_i hk;simp at h;rw [h];unfold isNm;rw [hk];rfl
  ·simp at h
 | neg a iha=>intro i j h;exact iha _ j h
 | ite a b c iha ihb ihc=>
  intro i j h
  simp only [nms,List.mem_append] at h
  exact h.elim (iha _ j) (fun h=>h.elim (ihb _ j) (ihc _ j))
 | dly b ihb=>intro i j h;exact ihb _ j h
 | bin a b iha ihb=>
  intro i j h
  simp only [nms,List.mem_append] at h
  exact h.elim (iha _ j) (ihb _ j)
theorem ix_some {l:List Dl}{p:Dl→Bool}{x:Dl} (hx:x∈l) (hp:p x=true):∃ j,l.findIdx? p=some j:=by
 cases h:l.findIdx? p with
 | some j=>exact ⟨j,rfl⟩
 | none=>rw [List.findIdx?_eq_none_iff] at h;rw [h x hx] at hp;cases hp
theorem Right.find {ts:List Tk}{L:List Dl} (H:Right ts L) {k:Nat} (hk:k<ts.length) (hn:isNm ts k=true):(∃ i,inIx ts L (lAt ts k)=some i)∨(∃ j,eqIx ts L (lAt ts k)=some j):=by
 obtain ⟨x,hx,he⟩:=H.decl k hk hn
 have hp:nmIs ts (lAt ts k) x=true:=by unfold nmIs;rw [he];simp
 by_cases h0:x.kind=0
 ·exact .inl (ix_some (List.mem_filter.2 ⟨hx,by rw [h0];rfl⟩) hp)
 ·exact .inr (ix_some (List.mem_filter.2 ⟨hx,by simpa using h0⟩) hp)
theorem Right.same {ts:List Tk}{L:List Dl} (H:Right ts L) {i j:Nat}{x y:Dl} (hx:(eqL L)[i]? = some x) (hy:(eqL L)[j]? = some y) (he:(nameD ts x).data.toList=(nameD ts y).data.toList):i=j:=by
 have mx:x∈L:=(List.mem_filter.1 (List.mem_of_getElem? hx)).1
 have my:y∈L:=(List.mem_filter.1 (List.mem_of_getElem? hy)).1
 have hi:=H.own x mx y my he
 obtain ⟨h1,rfl⟩:=List.getElem?_eq_some_iff.1 hx
 obtain ⟨h2,rfl⟩:=List.getElem?_eq_some_iff.1 hy
 have hp:(eqL L).Pairwise (fun x y=>x.i+x.len≤y.i):=H.pw.filter _
 rw [List.pairwise_iff_getElem] at hp
 rcases Nat.lt_trichotomy i j with h | h | h
 ·have:=hp i j h1 h2 h;have:=(eqL L)[i].len_pos;omega
 ·exact h
 ·have:=hp j i h2 h1 h;have:=(eqL L)[j].len_pos;omega
def knR (ts:List Tk) (L:List Dl) (ins:List (List Int)) (R:Nat→Nat→Int) (D:Nat→Bool) (now:Nat) (w:List UInt8) (n:Nat):Int × Bool:=
 match inIx ts L w with
 | some i=>(elemF ins i n,true)
 | none=>match eqIx ts L w with
  | some j=>if decide (n<now) || D j then (R j n,true) else (0,false)
  | none=>(0,false)
structure UpTo (ts:List Tk) (L:List Dl) (ins:List (List Int)) (R:Nat→Nat→Int) (D:Nat→Bool) (now:Nat):Prop where
 old:∀ j k,j<(eqL L).length→k<now→R j k=sol ts L ins j k
 new:∀ j,j<(eqL L).length→D j=true→R j now=sol ts L ins j now
theorem inst_val {ts:List Tk}{L:List Dl}{ins:List (List Int)}{R:Nat→Nat→Int}{D:Nat→Bool}{now:Nat} (H:Right ts L) (h:UpTo ts L ins R D now) (j:Nat) (hj:j<(eqL L).length)
  (hk:(evR ts (knR ts L ins R D now) (eqL L)[j].t ((eqL L)[j].i+5) now).2=true):(evR ts (knR ts L ins R D now) (eqL L)[j].t ((eqL L)[j].i+5) now).1=sol ts L ins j now:=by
 rw [sol_eq H.toEqs j now hj]
 refine evR_val ts _ _ _ (fun w n' hn hw=>?_) hk
 unfold knR at hw ⊢
 unfold valV
 cases hi:inIx ts L w with
 | some i=>rfl
 | none=>
  simp only [hi] at hw ⊢
  cases he:eqIx ts L w with
  | none=>simp only [he] at hw;cases hw
  | some l=>
   simp only [he] at hw ⊢
   obtain ⟨z,hz,_⟩:=eqIx_some he
   have hlt:l<(eqL L).length:=(List.getElem?_eq_some_iff.1 hz).1
   split at hw
   ·rename_i hc
    rw [if_pos hc]
    show R l n'=_
    by_cases h1:n'<now
    ·exact h.old l n' hlt h1
    ·have e:n'=now:=by omega
     subst e
     have hd:D l=true:=by simpa using hc
     exact h.new l hlt hd
   ·cases hw
theorem inst_known {ts:List Tk}{L:List Dl}{ins:List (List Int)}{R:Nat→Nat→Int}{D:Nat→Bool}{now:Nat} (H:Right ts L) (j:Nat) (hj:j<(eqL L).length)
  (hd:∀ l,l<(eqL L).length→relR ts L j l=true→D l=true):(evR ts (knR ts L ins R D now) (eqL L)[j].t ((eqL L)[j].i+5) now).2=true:=by
 have hx:(eqL L)[j]? = some (eqL L)[j]:=List.getElem?_eq_getElem hj
 obtain ⟨hs,hl⟩:=H.sp (eqL L)[j] (List.getElem_mem hj)
 have hex:∀ k∈nms ts (eqL L)[j].t ((eqL L)[j].i+5),(∃ i,inIx ts L (lAt ts k)=some i)∨(∃ l,eqIx ts L (lAt ts k)=some l):=fun k hk=>by
  have:=nms_lt _ _ k hk
  exact H.find (by omega) (nms_nm _ _ k hk)
 refine evR_known ts _ _ _ (fun k hk=>?_) (fun k hk n' hn=>?_)
 ·unfold knR
  cases hi:inIx ts L (lAt ts k) with
  | some i=>rfl
  | none=>
   rcases hex k (und_nms ts _ _ k hk) with ⟨i,h⟩ | ⟨l,h⟩
   ·rw [hi] at h;cases h
   ·simp only [h]
    obtain ⟨z,hz,_⟩:=eqIx_some h
    rw [hd l (List.getElem?_eq_some_iff.1 hz).1 (rel_und H.F hx hs hl hk h)]
    simp
 ·unfold knR
  cases hi:inIx ts L (lAt ts k) with
  | some i=>rfl
  | none=>
   rcases hex k hk with ⟨i,h⟩ | ⟨l,h⟩
   ·rw [hi] at h;cases h
   ·simp only [h]
    rw [decide_eq_true hn]
    simp
structure Pass (ts:List Tk) (L:List Dl) (ins:List (List Int)) (R:Nat→Nat→Int) (D:Nat→Bool) (now p i:Nat):Prop where
 up:UpTo ts L ins R D now
 done:∀ j,j<(eqL L).length→rk ts L j<p→D j=true
 here:∀ j,j<i→j<(eqL L).length→rk ts L j≤p→D j=true
def setR (R:Nat→Nat→Int) (a b:Nat) (v:Int):Nat→Nat→Int:=fun i k=>if i=a∧k=b then v else R i k
def setD (D:Nat→Bool) (a:Nat) (v:Bool):Nat→Bool:=fun i=>if i=a then v else D i
theorem Pass.skip {ts:List Tk}{L:List Dl}{ins:List (List Int)}{R:Nat→Nat→Int}{D:Nat→Bool}{now p i:Nat} (h:Pass ts L ins R D now p i) (hd:D i=true):Pass ts L ins R D now p (i+1):=
 ⟨h.up,h.done,fun j hj hj' hr=>by
  by_cases e:j=i
  ·rw [e];exact hd
  ·exact h.here j (by omega) hj' hr⟩
theorem Pass.next {ts:List Tk}{L:List Dl}{ins:List (List Int)}{R:Nat→Nat→Int}{D:Nat→Bool}{now p i:Nat} (H:Right ts L) (h:Pass ts L ins R D now p i) (hi:i<(eqL L).length) (hd:D i=false) :
  Pass ts L ins (setR R i now (evR ts (knR ts L ins R D now) (eqL L)[i].t ((eqL L)[i].i+5) now).1) (setD D i (evR ts (knR ts L ins R D now) (eqL L)[i].t ((eqL L)[i].i+5) now).2) now p (i+1):=by
 refine ⟨⟨fun j k hj hk=>?_,fun j hj hD=>?_⟩,fun j hj hr=>?_,fun j hj hj' hr=>?_⟩
 ·unfold setR;rw [if_neg (by omega)];exact h.up.old j k hj hk
 ·unfold setD at hD
  by_cases e:j=i
  ·subst e
   rw [if_pos rfl] at hD
   unfold setR
   rw [if_pos ⟨rfl,rfl⟩]
   exact inst_val H h.up j hj hD
  ·rw [if_neg e] at hD
   unfold setR
   rw [if_neg (by omega)]
   exact h.up.new j hj hD
 ·unfold setD
  by_cases e:j=i
  ·subst e;rw [h.done j hj hr] at hd;cases hd
  ·rw [if_neg e];exact h.done j hj hr
 ·unfold setD
  by_cases e:j=i
  ·subst e
   rw [if_pos rfl]
   refine inst_known H j hj' (fun l hl hrel=>h.done l hl ?_)
   have:=rk_less H.cyc hl hrel
   omega
  ·rw [if_neg e];exact h.here j (by omega) hj' hr
theorem Pass.over {ts:List Tk}{L:List Dl}{ins:List (List Int)}{R:Nat→Nat→Int}{D:Nat→Bool}{now p:Nat} (h:Pass ts L ins R D now p (eqL L).length):Pass ts L ins R D now (p+1) 0:=
 ⟨h.up,fun j hj hr=>h.here j hj hj (by omega),fun j hj=>by omega⟩
theorem Pass.first {ts:List Tk}{L:List Dl}{ins:List (List Int)}{R:Nat→Nat→Int}{now:Nat} (h:∀ j k,j<(eqL L).length→k<now→R j k=sol ts L ins j k):Pass ts L ins R (fun _=>false) now 0 0:=
 ⟨⟨h,fun j _ hd=>by cases hd⟩,fun j _ hr=>by omega,fun j hj=>by omega⟩
theorem Pass.last {ts:List Tk}{L:List Dl}{ins:List (List Int)}{R:Nat→Nat→Int}{D:Nat→Bool}{now:Nat} (H:Right ts L) (h:Pass ts L ins R D now (eqL L).length 0):∀ j k,j<(eqL L).length→k<now+1→R j k=sol ts L ins j k:=by
 intro j k hj hk
 by_cases h1:k<now
 ·exact h.up.old j k hj h1
 ·have e:k=now:=by omega
  subst e
  exact h.up.new j hj (h.done j hj (rk_lt H.cyc hj))
theorem sp_uniq {ts:List Tk} (hF:∀ i,TkF (tkAt ts i)):∀ (t t':Ast) (i:Nat),Sp ts t i→Sp ts t' i→t=t':=by
 intro t
 induction t with
 | leaf=>
  intro t' i h h'
  cases t' with
  | leaf=>rfl
  | neg a=>exact absurd h'.1 h.2
  | ite a b c=>exact absurd h'.1 h.2
  | dly b=>exact absurd h'.1 h.2
  | bin a b=>exact absurd h'.1 h.2
 | neg a iha=>
  intro t' i h h'
  cases t' with
  | leaf=>exact absurd h.1 h'.2
  | neg a'=>rw [iha a' _ h.2.2.1 h'.2.2.1]
  | ite a' b' c'=>have e:=h.2.1.symm.trans h'.2.1;exact absurd e (by decide)
  | dly b'=>exact absurd h.2.1 (leaf_ne2 hF (by unfold leafT;rw [h'.2.1];rfl)).1
  | bin a' b'=>exact absurd h.2.1 (sp_first hF h'.2.1).1
 | ite a b c iha ihb ihc=>
  intro t' i h h'
  cases t' with
  | leaf=>exact absurd h.1 h'.2
  | neg a'=>have e:=h.2.1.symm.trans h'.2.1;exact absurd e (by decide)
  | ite a' b' c'=>
   have e1:=iha a' _ h.2.2.1 h'.2.2.1
   subst e1
   have e2:=ihb b' _ h.2.2.2.1 h'.2.2.2.1
   subst e2
   rw [ihc c' _ h.2.2.2.2.1 h'.2.2.2.2.1]
  | dly b'=>exact absurd h.2.1 (leaf_ne2 hF (by unfold leafT;rw [h'.2.1];rfl)).2.1
  | bin a' b'=>exact absurd h.2.1 (sp_first hF h'.2.1).2
 | dly b ihb=>
  intro t' i h h'
  have hlf:leafT (tkAt ts (i+1))=true:=by unfold leafT;rw [h.2.1];rfl
  cases t' with
  | leaf=>exact absurd h.1 h'.2
  | neg a'=>exact absurd h'.2.1 (leaf_ne2 hF hlf).1
  | ite a' b' c'=>exact absurd h'.2.1 (leaf_ne2 hF hlf).2.1
  | dly b'=>rw [ihb b' _ h.2.2.2.1 h'.2.2.2.1]
  | bin a' b'=>
   have hs:=h'.2.1
   cases a' with
   | leaf=>exact absurd h.2.2.1 (op_ne h'.2.2.1).2.2.2
   | neg x=>exact absurd hs.1 (leaf_ne2 hF hlf).2.2.1
   | ite x y z=>exact absurd hs.1 (leaf_ne2 hF hlf).2.2.1
   | dly x=>exact absurd hs.1 (leaf_ne2 hF hlf).2.2.1
   | bin x y=>exact absurd hs.1 (leaf_ne2 hF hlf).2.2.1
 | bin a b iha ihb=>
  intro t' i h h'
  cases t' with
  | leaf=>exact absurd h.1 h'.2
  | neg a'=>exact absurd h'.2.1 (sp_first hF h.2.1).1
  | ite a' b' c'=>exact absurd h'.2.1 (sp_first hF h.2.1).2
  | dly b'=>
   have hlf:leafT (tkAt ts (i+1))=true:=by unfold leafT;rw [h'.2.1];rfl
   have hs:=h.2.1
   cases a with
   | leaf=>exact absurd h'.2.2.1 (op_ne h.2.2.1).2.2.2
   | neg x=>exact absurd hs.1 (leaf_ne2 hF hlf).2.2.1
   | ite x y z=>exact absurd hs.1 (leaf_ne2 hF hlf).2.2.1
   | dly x=>exact absurd hs.1 (leaf_ne2 hF hlf).2.2.1
   | bin x y=>exact absurd hs.1 (leaf_ne2 hF hlf).2.2.1
  | bin a' b'=>
   have e1:=iha a' _ h.2.1 h'.2.1
   subst e1
   rw [ihb b' _ h.2.2.2.1 h'.2.2.2.1]
def nrm (x:Dl):Dl:=if x.kind=0 then ⟨0,x.i,.leaf⟩ else x
theorem dl_uniq {ts:List Tk} (hF:∀ i,TkF (tkAt ts i)) {x y:Dl} (hi:x.i=y.i) (hx:DlOk ts x) (hy:DlOk ts y):nrm x=nrm y:=by
 obtain ⟨kx,ix,tx⟩:=x
 obtain ⟨ky,iy,ty⟩:=y
 simp only at hi
 subst hi
 unfold DlOk at hx hy
 simp only at hx hy
 rcases hx with ⟨h1,h2,_⟩ | ⟨h1,_,_,_,_,hs,_⟩ <;> rcases hy with ⟨g1,g2,_⟩ | ⟨g1,_,_,_,_,gs,_⟩
 ·subst h1 g1;rfl
 ·rcases g1 with ⟨_,g⟩ | ⟨_,g⟩
  ·have e:=h2.symm.trans g;exact absurd e (by decide)
  ·have e:=h2.symm.trans g;exact absurd e (by decide)
 ·rcases h1 with ⟨_,h⟩ | ⟨_,h⟩
  ·have e:=g2.symm.trans h;exact absurd e (by decide)
  ·have e:=g2.symm.trans h;exact absurd e (by decide)
 ·have e:=sp_uniq hF tx ty _ hs gs
  subst e
  rcases h1 with ⟨rfl,h⟩ | ⟨rfl,h⟩ <;> rcases g1 with ⟨rfl,g⟩ | ⟨rfl,g⟩
  ·rfl
  ·have e:=h.symm.trans g;exact absurd e (by decide)
  ·have e:=h.symm.trans g;exact absurd e (by decide)
  ·rfl
theorem nrm_len {x y:Dl} (h:nrm x=nrm y):x.len=y.len:=by
 unfold nrm at h
 unfold Dl.len
 by_cases hx:x.kind=0 <;> by_cases hy:y.kind=0
 ·rw [if_pos hx,if_pos hy]
 ·rw [if_pos hx,if_neg hy] at h;rw [← h] at hy;exact absurd rfl hy
 ·rw [if_neg hx,if_pos hy] at h;rw [h] at hx;exact absurd rfl hx
 ·rw [if_neg hx,if_neg hy] at h;rw [h]
theorem spell_uniq {ts:List Tk} (hF:∀ i,TkF (tkAt ts i)):∀ (L L':List Dl) (i:Nat),Spell ts L i→Spell ts L' i→L.map nrm=L'.map nrm:=by
 have hend:∀ {x:Dl} {i:Nat},x.i=i→DlOk ts x→(tkAt ts i).kind=0→False:=fun {x i} hi hx hk=>by
  subst hi
  have h0:=(hF x.i).k0 hk
  unfold DlOk at hx
  rcases hx with ⟨_,h,_⟩ | ⟨⟨_,h⟩ | ⟨_,h⟩,_⟩
  all_goals
   rw [show (tkAt ts x.i).l=_ from h] at h0
   revert h0
   decide
 intro L
 induction L with
 | nil=>
  intro L' i h h'
  cases L' with
  | nil=>rfl
  | cons y r=>exact (hend h'.1 h'.2.2.1 h.2).elim
 | cons x r ih=>
  intro L' i h h'
  cases L' with
  | nil=>exact (hend h.1 h.2.2.1 h'.2).elim
  | cons y r'=>
   obtain ⟨h1,h2,h3,h4⟩:=h
   obtain ⟨g1,g2,g3,g4⟩:=h'
   have e:=dl_uniq hF (h1.trans g1.symm) h3 g3
   rw [List.map_cons,List.map_cons,e,ih r' (i+x.len) h4 (by rw [nrm_len e];exact g4)]
theorem eqL_nrm:∀ (L:List Dl),eqL (L.map nrm)=eqL L:=by
 intro L
 induction L with
 | nil=>rfl
 | cons x r ih=>
  unfold eqL at *
  rw [List.map_cons,List.filter_cons,List.filter_cons,ih]
  unfold nrm
  by_cases h:x.kind=0
  ·simp [h]
  ·simp [h]
theorem inL_nrm:∀ (L:List Dl),(inL (L.map nrm)).map Dl.i=(inL L).map Dl.i:=by
 intro L
 induction L with
 | nil=>rfl
 | cons x r ih=>
  unfold inL at *
  rw [List.map_cons,List.filter_cons,List.filter_cons]
  unfold nrm at *
  by_cases h:x.kind=0
  ·simp [h,ih]
  ·simp [h,ih]
theorem spell_same {ts:List Tk} (hF:∀ i,TkF (tkAt ts i)) {L L':List Dl}{i:Nat} (h:Spell ts L i) (h':Spell ts L' i):eqL L=eqL L'∧(inL L).map Dl.i=(inL L').map Dl.i:=by
 have e:=spell_uniq hF L L' i h h'
 exact ⟨by rw [← eqL_nrm L,e,eqL_nrm],by rw [← inL_nrm L,e,inL_nrm]⟩
theorem ix_nm (ts:List Tk) {l:List Dl}{w:List UInt8}:l.findIdx? (nmIs ts w)=(l.map (nameD ts)).findIdx? (fun b=>b.data.toList == w):=by
 rw [List.findIdx?_map];rfl
theorem sol_same {ts:List Tk}{L L':List Dl} (he:eqL L=eqL L') (hi:(inL L).map Dl.i=(inL L').map Dl.i) (ins:List (List Int)):sol ts L ins=sol ts L' ins:=by
 have hV:∀ R w n,valV ts L ins R w n=valV ts L' ins R w n:=fun R w n=>by
  unfold valV
  have e1:inIx ts L w=inIx ts L' w:=by
   unfold inIx
   rw [ix_nm,ix_nm]
   congr 1
   have e:∀ l:List Dl,l.map (nameD ts)=(l.map Dl.i).map fun k=>(tkAt ts (k+1)).text:=fun l=>by rw [List.map_map];rfl
   rw [e,e,hi]
  have e2:eqIx ts L w=eqIx ts L' w:=by unfold eqIx;rw [he]
  rw [e1,e2]
 have key:∀ f j n,solF ts L ins f j n=solF ts L' ins f j n:=by
  intro f
  induction f with
  | zero=>intro j n;rfl
  | succ f ih=>
   intro j n
   have e:solF ts L ins f=solF ts L' ins f:=by funext j n;exact ih j n
   simp only [solF,he]
   have:valV ts L ins (solF ts L ins f)=valV ts L' ins (solF ts L' ins f):=by funext w n;rw [hV,e]
   rw [this]
 funext j n
 unfold sol
 rw [he]
 exact key _ j n
structure ROk (ts:List Tk) (L:List Dl):Prop where
 F:∀ i,TkF (tkAt ts i)
 E:∀ i,(tkAt ts i).kind=0→ts.length≤i+1
 len:ts.length≤1501
 pos:0<ts.length
 sp:Spell ts L 0
theorem ROk.mem {ts:List Tk}{L:List Dl} (h:ROk ts L) {x:Dl} (hx:x∈L):x.i+x.len<ts.length∧DlOk ts x:=(spell_mem L 0 h.sp x hx).2
theorem ROk.eq {ts:List Tk}{L:List Dl} (h:ROk ts L) {x:Dl} (hx:x∈eqL L):x∈L∧x.kind≠0∧Sp ts x.t (x.i+5)∧x.i+5+x.t.len<ts.length∧placeD ts x<4:=by
 have hm:=List.mem_filter.1 hx
 have hk:x.kind≠0:=by simpa using hm.2
 obtain ⟨h1,h2⟩:=h.mem hm.1
 have hl:x.len=x.t.len+6:=by unfold Dl.len;rw [if_neg hk]
 refine ⟨hm.1,hk,?_,by omega,?_⟩
 ·rcases h2 with ⟨h,_⟩ | ⟨_,_,_,_,_,h,_⟩
  ·exact absurd h hk
  ·exact h
 ·rcases h2 with ⟨h,_⟩ | ⟨_,_,_,h,_⟩
  ·exact absurd h hk
  ·exact h.2
theorem spell_len {ts:List Tk}:∀ (L:List Dl) (i:Nat),Spell ts L i→L.length+i≤ts.length:=by
 intro L
 induction L with
 | nil=>intro i h;have:=h.1;simp;omega
 | cons x r ih=>intro i h;have:=ih _ h.2.2.2;have:=Dl.len_pos x;simp;omega
theorem ROk.many {ts:List Tk}{L:List Dl} (h:ROk ts L):L.length≤1501∧(eqL L).length≤1501∧(inL L).length≤1501:=by
 have h1:=spell_len L 0 h.sp
 have h2:=h.len
 have h3:=List.length_filter_le (fun x:Dl=>x.kind != 0) L
 have h4:=List.length_filter_le (fun x:Dl=>x.kind == 0) L
 exact ⟨by omega,by unfold eqL;omega,by unfold inL;omega⟩
end Go.Proofs.YtmndgoapkmhglaaGreat
namespace Go.Proofs.YtmndgoapkmhglaaGreat
open Go.RowKit
def pCells (l:List Nat):List Value:=l.map fun (n:Nat)=>Value.int .i64 (n:Int)
theorem pCells_snoc (l:List Nat) (n:Nat):pCells (l ++ [n])=pCells l ++ [.int .i64 (n:Int)]:=by simp [pCells]
theorem Tryz.infoInt:(Tryz.prog.info? 3).map (fun i=>(i.zero,i.size,i.bytes))=some (some (.int .i64 0),1,8):=by kernel_rfl
end Go.Proofs.YtmndgoapkmhglaaGreat
namespace Go.Proofs.YtmndgoapkmhglaaGreat
structure OpF where
 k:Int
 a:Int
 b:Int
 c:Int
structure CdF where
 ops:List OpF
 cells:List Int
 next:List Int
 out:List Int
def atF (l:List Int) (i:Int):Int:=if i<0 then 0 else l.getD i.toNat 0
def readsF (k:Int):Nat:=if k<5 then 0 else if k=13 then 1 else if k=14 then 3 else 2
def regOk (i:Nat) (r:Int):Bool:=decide (0≤r) && decide (r<(i:Int))
def opArgs (o:OpF):List Int:=[o.a,o.b,o.c]
def opOk (nc i:Nat) (o:OpF):Bool:=
 decide (0≤o.k) && decide (o.k≤14) && (decide (o.k≠3) || regOk nc o.a) && ((opArgs o).take (readsF o.k)).all (regOk i)
def opsOk (nc:Nat):Nat→List OpF→Bool
 | _,[]=>true
 | i,o :: r=>opOk nc i o && opsOk nc (i+1) r
def formedF (c:CdF):Bool:=
 decide (c.ops.length≤1500) && decide (c.next.length≤1500) && decide (c.out.length≤1500) && decide (c.cells.length=c.next.length) && opsOk c.cells.length 0 c.ops && c.next.all (regOk c.ops.length) && c.out.all (regOk c.ops.length)
def laysF (o:OpF) (n:Int) (regs cells ins links:List Int):Int:=
 if o.k=0 then o.a else if o.k=1 then atF ins o.a else if o.k=2 then atF links o.a else if o.k=3 then atF cells o.a else if o.k=4 then b2i (decide (n=0))
 else if o.k=5 then w64 (atF regs o.a+atF regs o.b) else if o.k=6 then w64 (atF regs o.a - atF regs o.b) else if o.k=7 then w64 (atF regs o.a * atF regs o.b)
 else if o.k=8 then apF [47] (atF regs o.a) (atF regs o.b) else if o.k=9 then b2i (decide (atF regs o.a<atF regs o.b)) else if o.k=10 then b2i (decide (atF regs o.a=atF regs o.b))
 else if o.k=11 then b2i (decide (atF regs o.a≠0) && decide (atF regs o.b≠0)) else if o.k=12 then b2i (decide (atF regs o.a≠0) || decide (atF regs o.b≠0))
 else if o.k=13 then b2i (decide (atF regs o.a=0)) else if atF regs o.a=0 then atF regs o.c else atF regs o.b
def regsF (n:Int) (cells ins links:List Int) (regs:List Int):List OpF→List Int
 | []=>regs
 | o :: r=>regsF n cells ins links (regs ++ [laysF o n regs cells ins links]) r
theorem regsF_snoc (n:Int) (cells ins links:List Int):∀ (l:List OpF) (regs:List Int) (o:OpF),regsF n cells ins links regs (l ++ [o])=regsF n cells ins links regs l ++ [laysF o n (regsF n cells ins links regs l) cells ins links]:=by
 intro l
 induction l with
 | nil=>intro regs o;rfl
 | cons a r ih=>intro regs o;exact ih _ o
theorem regsF_len (n:Int) (cells ins links:List Int):∀ (l:List OpF) (regs:List Int),(regsF n cells ins links regs l).length=regs.length+l.length:=by
 intro l
 induction l with
 | nil=>intro regs;rfl
 | cons a r ih=>intro regs;show (regsF _ _ _ _ _ r).length=_;rw [ih];simp;omega
def execF (c:CdF) (n:Int) (cells ins links:List Int):Nat × List Int × List Int:=
 if formedF c=false then (9,[],[]) else if n<0∨cells.length≠c.cells.length then (10,[],[])
 else (0,c.out.map (atF (regsF n cells ins links [] c.ops)),c.next.map (atF (regsF n cells ins links [] c.ops)))
end Go.Proofs.YtmndgoapkmhglaaGreat
namespace Go.Proofs.YtmndgoapkmhglaaGreat
open Go.RowKit
def atG (ts:List Tk) (L:List Dl) (pl:Int) (m:Nat):List Nat:=(List.range m).filter fun i=>(((eqL L)[i]?).map fun x=>((placeD ts x:Nat):Int) == pl) == some true
def atR (ts:List Tk) (L:List Dl) (pl:Int):List Nat:=atG ts L pl (eqL L).length
theorem atG_len (ts:List Tk) (L:List Dl) (pl:Int) (m:Nat):(atG ts L pl m).length≤m:=by
 have:=List.length_filter_le (fun i=>(((eqL L)[i]?).map fun x=>((placeD ts x:Nat):Int) == pl) == some true) (List.range m)
 rwa [List.length_range] at this
theorem atG_hit {ts:List Tk}{L:List Dl}{pl:Int}{m:Nat} (hm:m<(eqL L).length) (h:((placeD ts ((eqL L)[m]):Nat):Int)=pl):atG ts L pl (m+1)=atG ts L pl m ++ [m]:=by
 unfold atG
 rw [List.range_succ,List.filter_append]
 congr 1
 simp [hm,h]
theorem atG_miss {ts:List Tk}{L:List Dl}{pl:Int}{m:Nat} (hm:m<(eqL L).length) (h:((placeD ts ((eqL L)[m]):Nat):Int)≠pl):atG ts L pl (m+1)=atG ts L pl m:=by
 unfold atG
 rw [List.range_succ,List.filter_append]
 simp [hm,h]
end Go.Proofs.YtmndgoapkmhglaaGreat
namespace Go.Proofs.YtmndgoapkmhglaaGreat
def fbyT (ts:List Tk) (b n:Nat):Nat:=((List.range' b n).filter fun j=>lAt ts j == kFby).length
def dlyG (ts:List Tk) (pl:Int):List Dl→Nat
 | []=>0
 | x :: r=>(if ((placeD ts x:Nat):Int)=pl then fbyT ts (x.i+5) x.t.len else 0)+dlyG ts pl r
def delaysR (ts:List Tk) (L:List Dl) (pl:Int):Nat:=dlyG ts pl (eqL L)
def nowL (L:List Dl) (ins:List (List Int)) (k:Nat):List Int:=(List.range (inL L).length).map fun i=>elemF ins i k
def givF (F:Nat→Nat→Int) (k:Nat) (junk:Int) (r:Rt):Int:=if r.late=false then F r.src k else if 0<k then F r.src (k - 1) else junk
def givL (F:Nat→Nat→Int) (pl:Int) (k:Nat) (junk:Int) (l:List Rt):List Int:=(l.filter fun r=>((r.dst:Nat):Int) == pl).map (givF F k junk)
def givenR (ts:List Tk) (L:List Dl) (F:Nat→Nat→Int) (pl:Int) (k:Nat) (junk:Int):List Int:=givL F pl k junk (routesR ts L)
def cellsS (c:CdF) (I K:Nat→List Int):Nat→List Int
 | 0=>c.cells
 | k+1=>(execF c (k:Int) (cellsS c I K k) (I k) (K k)).2.2
structure StepOk (ts:List Tk) (L:List Dl) (pl:Int) (c:CdF) (size:Nat):Prop where
 formed:formedF c=true
 ops:c.ops.length≤size
 out:c.out.length=(atR ts L pl).length
 cells:c.cells.length≤delaysR ts L pl
 play:∀ (ins:List (List Int)) (junk:Int) (k i j:Nat),(atR ts L pl)[i]? = some j→
  ((execF c (k:Int) (cellsS c (nowL L ins) (fun k=>givenR ts L (sol ts L ins) pl k junk) k) (nowL L ins k) (givenR ts L (sol ts L ins) pl k junk)).2.1)[i]? = some (sol ts L ins j k)
theorem exec_ok {c:CdF} (hf:formedF c=true) {n:Int} (hn:0≤n) {cells:List Int} (hc:cells.length=c.cells.length) (ins links:List Int):(execF c n cells ins links).1=0∧(execF c n cells ins links).2.2.length=c.cells.length∧(execF c n cells ins links).2.1.length=c.out.length:=by
 unfold execF
 rw [if_neg (by rw [hf];decide),if_neg (by omega)]
 refine ⟨rfl,?_,by simp⟩
 have:=hf
 unfold formedF at this
 simp only [Bool.and_eq_true,decide_eq_true_eq] at this
 obtain ⟨⟨⟨⟨_,h4⟩,_⟩,_⟩,_⟩:=this
 simp [h4]
theorem cellsS_len {c:CdF} (hf:formedF c=true) (I K:Nat→List Int):∀ k,(cellsS c I K k).length=c.cells.length:=by
 intro k
 induction k with
 | zero=>rfl
 | succ k ih=>exact (exec_ok hf (by omega) ih _ _).2.1
theorem fbyT_succ (ts:List Tk) (b n:Nat):fbyT ts b (n+1)=fbyT ts b n+(if lAt ts (b+n)=kFby then 1 else 0):=by
 unfold fbyT
 rw [range_split,List.filter_append,List.length_append]
 congr 1
 by_cases h:lAt ts (b+n)=kFby
 ·simp [List.range',h]
 ·simp [List.range',h]
theorem fbyT_le (ts:List Tk) (b n:Nat):fbyT ts b n≤n:=by
 unfold fbyT
 have:=List.length_filter_le (fun j=>lAt ts j == kFby) (List.range' b n)
 rwa [List.length_range'] at this
def Bit (x:Int):Prop:=x=0∨x=1
theorem bit_b2i (b:Bool):Bit (b2i b):=by cases b <;> simp [Bit,b2i]
theorem or_none {a b:Option Nat} (h:a.or b=none):a=none∧b=none:=by cases a <;> simp_all
theorem bad_if {c:Bool}{p:Nat}{x:Option Nat} (h:(if c=true then some p else x)=none):c=false∧x=none:=by
 cases c <;> simp_all
theorem w64_id (x:Int) (h1 : -9223372036854775808≤x) (h2:x<9223372036854775808):w64 x=x:=by
 unfold w64 Go.RowKit.wrap64
 omega
section
variable {ts:List Tk} (hF:∀ i,TkF (tkAt ts i)) {L:List Dl}
include hF
theorem lit_bit {i:Nat} (h2:litT (tkAt ts i)=true) (hb:badR ts L i 116=false):Bit (litV (tkAt ts i)):=by
 have hlf:leafT (tkAt ts i)=true:=by unfold leafT;rw [h2];rfl
 have hk1:(tkAt ts i).kind≠1:=by have:=lit_nm hF h2;unfold isNm at this;simpa using this
 by_cases h3:(tkAt ts i).kind=3
 ·have hi:isR ts L i=110:=by unfold isR;rw [if_neg hk1,if_pos h3]
  unfold badR at hb;rw [hi] at hb;cases hb
 ·unfold litV;rw [if_neg h3];exact bit_b2i _
omit hF in
theorem op_truth {o:List UInt8} (h:(opOf o).isSome=true) (h2:opR o=116) (a b:Int):Bit (apF o a b):=by
 revert h h2
 unfold opOf
 split;· rename_i e;subst e;intro _ h;exact absurd h (by decide)
 split;· rename_i e;subst e;intro _ h;exact absurd h (by decide)
 split;· rename_i e;subst e;intro _ h;exact absurd h (by decide)
 split;· rename_i e;subst e;intro _ h;exact absurd h (by decide)
 split;· rename_i e;subst e;intro _ _;exact bit_b2i _
 split;· rename_i e;subst e;intro _ _;exact bit_b2i _
 split;· rename_i e;subst e;intro _ _;exact bit_b2i _
 split;· rename_i e;subst e;intro _ _;exact bit_b2i _
 ·intro h;cases h
theorem ev_bit {V:List UInt8→Nat→Int} (hV:∀ k n,k<ts.length→nameT ts L k=true→Bit (V (lAt ts k) n)):∀ (t:Ast) (i n:Nat),Sp ts t i→i+t.len≤ts.length→wrongR ts L t i 116=none→Bit (evT ts V t i n):=by
 intro t
 induction t with
 | leaf=>
  intro i n hs hl h
  simp only [Ast.len] at hl
  simp only [wrongR] at h
  obtain ⟨hb,_⟩:=bad_if h
  unfold evT
  by_cases h1:(tkAt ts i).kind=1
  ·rw [if_pos h1]
   cases hn:nameT ts L i with
   | true=>exact hV i n (by omega) hn
   | false=>
    have hi:isR ts L i=110:=by unfold isR;rw [if_pos h1,hn];rfl
    unfold badR at hb;rw [hi] at hb;cases hb
  ·rw [if_neg h1]
   have h2:litT (tkAt ts i)=true:=by
    have:=hs.1
    unfold leafT at this
    have hk:((tkAt ts i).kind == 1)=false:=by simpa using h1
    rwa [hk,Bool.or_false] at this
   exact lit_bit hF h2 hb
 | neg a iha=>
  intro i n hs hl h
  obtain ⟨h1,h2,h3,h4⟩:=hs
  simp only [Ast.len] at hl
  simp only [wrongR] at h
  have ha:=iha (i+2) n h3 (by omega) (bad_if h).2
  simp only [evT]
  rcases ha with ha | ha <;> rw [ha] <;> simp [Bit,w64,Go.RowKit.wrap64]
 | ite a b c iha ihb ihc=>
  intro i n hs hl h
  obtain ⟨h1,h2,h3,h4,h5,h6⟩:=hs
  simp only [Ast.len] at hl
  simp only [wrongR] at h
  obtain ⟨_,h⟩:=bad_if h
  obtain ⟨_,h⟩:=or_none h
  obtain ⟨hb,hc⟩:=or_none h
  simp only [evT]
  split
  ·exact ihb _ n h4 (by omega) hb
  ·exact ihc _ n h5 (by omega) hc
 | dly b ihb=>
  intro i n hs hl h
  obtain ⟨h1,h2,h3,h4,h5⟩:=hs
  simp only [Ast.len] at hl
  simp only [wrongR] at h
  obtain ⟨_,h⟩:=bad_if h
  obtain ⟨hb,hc⟩:=or_none h
  cases n with
  | zero=>simp only [evT];exact lit_bit hF h2 (bad_if hb).1
  | succ n=>simp only [evT];exact ihb _ n h4 (by omega) hc
 | bin a b iha ihb=>
  intro i n hs hl h
  obtain ⟨h1,h2,h3,h4,h5⟩:=hs
  obtain ⟨n1,n2⟩:=sp_first hF h2
  simp only [Ast.len] at hl
  simp only [wrongR] at h
  obtain ⟨hb,_⟩:=bad_if h
  have hbh:behindF ts (i+1)=i+1+a.len:=behind_sp hF a (i+1) h2 (by omega)
  have hi:isR ts L i=opR (lAt ts (i+1+a.len)):=by rw [isR_open hF h1,if_neg n1,if_neg n2,hbh]
  simp only [evT]
  refine op_truth h3 ?_ _ _
  unfold badR at hb
  rw [hi] at hb
  have hne:lAt ts (i+1+a.len)≠kFby:=fun e=>by rw [e] at h3;revert h3;decide
  unfold opR at hb ⊢
  rw [if_neg hne] at hb ⊢
  split at hb
  ·cases hb
  ·rename_i hx;rw [if_neg hx]
end
theorem nameT_of {ts:List Tk}{L:List Dl} (H:Right ts L) {k:Nat} (h:nameT ts L k=true):∃ j x,inIx ts L (lAt ts k)=none∧eqIx ts L (lAt ts k)=some j∧(eqL L)[j]? = some x∧x.kind=2:=by
 unfold nameT at h
 rw [List.any_eq_true] at h
 obtain ⟨x,hx,h2⟩:=h
 rw [Bool.and_eq_true,beq_iff_eq,beq_iff_eq] at h2
 obtain ⟨j,hj⟩:=ix_some (p:=nmIs ts (lAt ts k)) hx (by unfold nmIs;rw [h2.1];simp)
 obtain ⟨z,hz,hn⟩:=eqIx_some hj
 obtain ⟨m,hm,rfl⟩:=List.getElem_of_mem hx
 have hjm:=H.same hz (List.getElem?_eq_getElem hm) (hn.trans h2.1.symm)
 subst hjm
 refine ⟨j,_,?_,hj,List.getElem?_eq_getElem hm,h2.2⟩
 cases hi:inIx ts L (lAt ts k) with
 | none=>rfl
 | some i=>
  exfalso
  obtain ⟨g1,g2,_⟩:=List.findIdx?_eq_some_iff_getElem.1 hi
  have g3:(nameD ts (inL L)[i]).data.toList=lAt ts k:=by simpa [nmIs] using g2
  have m1:=List.mem_filter.1 (List.getElem_mem g1)
  have m2:=List.mem_filter.1 hx
  have e:=H.own _ m1.1 _ m2.1 (g3.trans h2.1.symm)
  have hp:=H.pw
  have k1:(inL L)[i].kind=0:=by simpa using m1.2
  have k2:(eqL L)[j].kind≠0:=by simpa using m2.2
  obtain ⟨a,ha,ea⟩:=List.getElem_of_mem m1.1
  obtain ⟨b,hb,eb⟩:=List.getElem_of_mem m2.1
  rw [List.pairwise_iff_getElem] at hp
  rw [← ea] at k1 e
  rw [← eb] at k2 e
  rcases Nat.lt_trichotomy a b with h | h | h
  ·have:=hp a b ha hb h;have:=L[a].len_pos;omega
  ·subst h;exact k2 k1
  ·have:=hp b a hb ha h;have:=L[b].len_pos;omega
theorem val_bit {ts:List Tk}{L:List Dl} (H:Right ts L) {ins:List (List Int)}{R:Nat→Nat→Int} (hR:∀ j n x,(eqL L)[j]? = some x→x.kind=2→Bit (R j n)):∀ k n,k<ts.length→nameT ts L k=true→Bit (valV ts L ins R (lAt ts k) n):=by
 intro k n _ h
 obtain ⟨j,x,h1,h2,h3,h4⟩:=nameT_of H h
 unfold valV
 rw [h1,h2]
 exact hR j n x h3 h4
theorem solF_bit {ts:List Tk}{L:List Dl} (H:Right ts L) (hT:typesR ts L=none) {ins:List (List Int)}:∀ f j n x,(eqL L)[j]? = some x→x.kind=2→Bit (solF ts L ins f j n):=by
 intro f
 induction f with
 | zero=>intro j n x _ _;exact .inl rfl
 | succ f ih=>
  intro j n x hx hk
  simp only [solF,bodyV,hx]
  obtain ⟨hs,hl⟩:=H.sp x (List.mem_of_getElem? hx)
  unfold typesR at hT
  rw [List.findSome?_eq_none_iff] at hT
  have hw:=hT x (List.mem_of_getElem? hx)
  rw [hk] at hw
  exact ev_bit H.F (val_bit H ih) x.t _ n hs hl hw
theorem sol_bit {ts:List Tk}{L:List Dl} (H:Right ts L) (hT:typesR ts L=none) {ins:List (List Int)} (j n:Nat) (x:Dl) (hx:(eqL L)[j]? = some x) (hk:x.kind=2):Bit (sol ts L ins j n):=solF_bit H hT _ j n x hx hk
def AllAt {α:Type} (P:Nat→α→Prop):Nat→List α→Prop
 | _,[]=>True
 | o,x :: l=>P o x∧AllAt P (o+1) l
theorem allAt_app {α:Type}{P:Nat→α→Prop}:∀ (l m:List α) (o:Nat),AllAt P o (l ++ m)↔AllAt P o l∧AllAt P (o+l.length) m:=by
 intro l
 induction l with
 | nil=>intro m o;simp [AllAt]
 | cons x l ih=>
  intro m o
  simp only [List.cons_append,AllAt,ih,List.length_cons]
  rw [show o+1+l.length=o+(l.length+1) by omega,and_assoc]
theorem allAt_get {α:Type}{P:Nat→α→Prop}:∀ (l:List α) (o:Nat),AllAt P o l↔∀ m x,l[m]? = some x→P (o+m) x:=by
 intro l
 induction l with
 | nil=>intro o;simp [AllAt]
 | cons x l ih=>
  intro o
  simp only [AllAt,ih]
  constructor
  ·rintro ⟨h1,h2⟩ m y hm
   cases m with
   | zero=>simp at hm;subst hm;exact h1
   | succ m=>have:=h2 m y (by simpa using hm);rwa [show o+1+m=o+(m+1) by omega] at this
  ·intro h
   refine ⟨h 0 x rfl,fun m y hm=>?_⟩
   have:=h (m+1) y (by simpa using hm)
   rwa [show o+(m+1)=o+1+m by omega] at this
theorem AllAt.mono {α:Type}{P Q:Nat→α→Prop} (h:∀ j x,P j x→Q j x):∀ (l:List α) (o:Nat),AllAt P o l→AllAt Q o l:=by
 intro l
 induction l with
 | nil=>intro o _;trivial
 | cons x l ih=>intro o hp;exact ⟨h _ _ hp.1,ih _ hp.2⟩
def numAt (ds:List Dc) (i:Int):Nat:=(ds.getD i.toNat ⟨0,0,⟨#[]⟩,0,0,0,0⟩).number
def rootAt (ds:List Dc) (i:Int):Nat:=(ds.getD i.toNat ⟨0,0,⟨#[]⟩,0,0,0,0⟩).root
def pairF (op:Nat) (a b:Int):Int:=
 if op=5 then w64 (a+b) else if op=6 then w64 (a - b) else if op=7 then w64 (a * b)
 else if op=8 then (if b=0 then 0 else if b = -1 then w64 (0 - a) else w64 (a.tdiv b)) else if op=9 then b2i (decide (a<b)) else if op=10 then b2i (decide (a=b))
 else if op=11 then b2i (decide (a≠0) && decide (b≠0)) else if op=12 then b2i (decide (a≠0) || decide (b≠0)) else 0
def nameF (ds:List Dc) (ins:List (List Int)) (b:Int) (k:Nat) (X:Nat→Int):Int:=if kindAt ds b=0 then elemF ins (numAt ds b) k else X (rootAt ds b)
def valF (ds:List Dc) (ins:List (List Int)) (n:Nd) (k:Nat) (X Y:Nat→Int):Int:=
 if n.kind=2 then nameF ds ins n.decl k X
 else if n.kind=3 then b2i (decide (X n.a=0))
 else if n.kind=4 then (if X n.a≠0 then X n.b else X n.c)
 else if n.kind=5 then (if k=0 then X n.a else Y n.b)
 else if n.kind=6 then pairF n.op (X n.a) (X n.b)
 else (n.value:Int)
def needs (n:Nd):List Nat:=
 if n.kind=3 then [n.a] else if n.kind=4 then [n.a,n.b,n.c] else if n.kind=5 then [n.a] else if n.kind=6 then [n.a,n.b] else []
def flatV (ts:List Tk) (V:List UInt8→Nat→Int) (k:Nat):Ast→Nat→List Int
 | .leaf,i=>[evT ts V .leaf i k]
 | .neg a,i=>evT ts V (.neg a) i k :: flatV ts V k a (i+2)
 | .ite a b c,i=>evT ts V (.ite a b c) i k :: (flatV ts V k a (i+2) ++ (flatV ts V k b (i+2+a.len) ++ flatV ts V k c (i+2+a.len+b.len)))
 | .dly b,i=>evT ts V (.dly b) i k :: litV (tkAt ts (i+1)) :: flatV ts V k b (i+3)
 | .bin a b,i=>evT ts V (.bin a b) i k :: (flatV ts V k a (i+1) ++ flatV ts V k b (i+2+a.len))
theorem flatV_len (ts:List Tk) (V:List UInt8→Nat→Int) (k:Nat):∀ (t:Ast) (i:Nat),(flatV ts V k t i).length=t.size:=by
 intro t
 induction t with
 | leaf=>intro i;rfl
 | neg a iha=>intro i;simp [flatV,Ast.size,iha]
 | ite a b c iha ihb ihc=>intro i;simp [flatV,Ast.size,iha,ihb,ihc];omega
 | dly b ihb=>intro i;simp [flatV,Ast.size,ihb]
 | bin a b iha ihb=>intro i;simp [flatV,Ast.size,iha,ihb]
theorem flatV_head {ts:List Tk}{V:List UInt8→Nat→Int}{k:Nat}{X:Nat→Int}:∀ {t:Ast}{i o:Nat},AllAt (fun j v=>X j=v) o (flatV ts V k t i)→X o=evT ts V t i k:=by
 intro t i o h
 cases t <;> exact h.1
theorem op_some {o:List UInt8} (h:(opOf o).isSome=true):o=[43]∨o=[45]∨o=[42]∨o=[47]∨o=[60]∨o=[61]∨o=[38]∨o=[124]:=by
 revert h
 unfold opOf
 split;· rename_i e;intro _;exact .inl e
 split;· rename_i e;intro _;exact .inr (.inl e)
 split;· rename_i e;intro _;exact .inr (.inr (.inl e))
 split;· rename_i e;intro _;exact .inr (.inr (.inr (.inl e)))
 split;· rename_i e;intro _;exact .inr (.inr (.inr (.inr (.inl e))))
 split;· rename_i e;intro _;exact .inr (.inr (.inr (.inr (.inr (.inl e)))))
 split;· rename_i e;intro _;exact .inr (.inr (.inr (.inr (.inr (.inr (.inl e))))))
 split;· rename_i e;intro _;exact .inr (.inr (.inr (.inr (.inr (.inr (.inr e))))))
 ·intro h;cases h
theorem pair_ap {o:List UInt8} (h:(opOf o).isSome=true) {a b:Int} (hb:o=[38]∨o=[124]→Bit a∧Bit b):apF o a b=pairF ((opOf o).getD 0) a b:=by
 rcases op_some h with rfl | rfl | rfl | rfl | rfl | rfl | rfl | rfl
 ·rfl
 ·rfl
 ·rfl
 ·show (if b=0 then 0 else w64 (a.tdiv b))=(if b=0 then 0 else if b = -1 then w64 (0 - a) else w64 (a.tdiv b))
  by_cases h0:b=0
  ·rw [if_pos h0,if_pos h0]
  ·rw [if_neg h0,if_neg h0]
   by_cases h1:b = -1
   ·rw [if_pos h1,h1]
    congr 1
    rw [Int.tdiv_neg,Int.tdiv_one];omega
   ·rw [if_neg h1]
 ·rfl
 ·rfl
 ·obtain ⟨h1,h2⟩:=hb (.inl rfl)
  rcases h1 with rfl | rfl <;> rcases h2 with rfl | rfl <;> decide
 ·obtain ⟨h1,h2⟩:=hb (.inr rfl)
  rcases h1 with rfl | rfl <;> rcases h2 with rfl | rfl <;> decide
section
variable {ds:List Dc} {ins:List (List Int)} {n:Nd} {k:Nat} {X Y:Nat→Int}
theorem valF3 (h:n.kind=3):valF ds ins n k X Y=b2i (decide (X n.a=0)):=by unfold valF;rw [if_neg (by omega),if_pos h]
theorem valF4 (h:n.kind=4):valF ds ins n k X Y=if X n.a≠0 then X n.b else X n.c:=by unfold valF;rw [if_neg (by omega),if_neg (by omega),if_pos h]
theorem valF5 (h:n.kind=5):valF ds ins n k X Y=if k=0 then X n.a else Y n.b:=by unfold valF;rw [if_neg (by omega),if_neg (by omega),if_neg (by omega),if_pos h]
theorem valF6 (h:n.kind=6):valF ds ins n k X Y=pairF n.op (X n.a) (X n.b):=by unfold valF;rw [if_neg (by omega),if_neg (by omega),if_neg (by omega),if_neg (by omega),if_pos h]
end
theorem bind_other {ds:List Dc}{n:Nd} (h:n.kind≠2):bindF ds n=n:=by unfold bindF;rw [if_neg h]
section
variable {ts:List Tk} (hF:∀ i,TkF (tkAt ts i)) {L:List Dl} {ds:List Dc} {ins:List (List Int)} {V:List UInt8→Nat→Int} {k:Nat} {X Y:Nat→Int}
include hF
theorem lit_val {i dl:Nat} (h:litT (tkAt ts i)=true):litV (tkAt ts i)=valF ds ins (bindF ds (mkN ts i dl (leafN0 (tkAt ts i)))) k X Y:=by
 have hlf:leafT (tkAt ts i)=true:=by unfold leafT;rw [h];rfl
 have hk1:(tkAt ts i).kind≠1:=by have:=lit_nm hF h;unfold isNm at this;simpa using this
 have hk:=leafN0_no hlf hk1
 rw [bind_other (by rw [mkN_kind];exact hk)]
 unfold litV
 by_cases h3:(tkAt ts i).kind=3
 ·have hn:∀ l,kwL.contains l=true→(tkAt ts i).l≠l:=fun l hl e=>by have:=(hF i).k3 h3;rw [e,hl] at this;cases this
  have hl:leafN0 (tkAt ts i) = { ndZero with kind:=0,value:=valOf (tkAt ts i).l }:=by
   unfold leafN0;rw [if_neg (hn _ (by decide)),if_neg (hn _ (by decide)),if_pos h3]
  rw [if_pos h3,hl];rfl
 ·rw [if_neg h3]
  unfold litT at h
  have h30:((tkAt ts i).kind == 3)=false:=by simpa using h3
  rw [h30,Bool.false_or,Bool.or_eq_true,beq_iff_eq,beq_iff_eq] at h
  by_cases e:(tkAt ts i).l=kTrue
  ·have hl:leafN0 (tkAt ts i) = { ndZero with kind:=1,value:=1 }:=by unfold leafN0;rw [if_pos e]
   rw [hl,e];rfl
  ·have e2:=h.resolve_left e
   have hl:leafN0 (tkAt ts i) = { ndZero with kind:=1 }:=by unfold leafN0;rw [if_neg e,if_pos e2]
   rw [hl,e2];rfl
theorem flat_val (hV:∀ k n,k<ts.length→nameT ts L k=true→Bit (V (lAt ts k) n)) :
  ∀ (t:Ast) (i dl off w:Nat),Sp ts t i→i+t.len≤ts.length→wrongR ts L t i w=none→
   (∀ j∈nms ts t i,V (lAt ts j) k=nameF ds ins (findF ds (tkAt ts j).text) k X)→
   AllAt (fun j v=>X j=v) off (flatV ts V k t i)→(k≠0→AllAt (fun j v=>Y j=v) off (flatV ts V (k - 1) t i))→
   AllAt (fun j n=>X j=valF ds ins (bindF ds n) k X Y) off (flat ts t i dl off):=by
 intro t
 induction t with
 | leaf=>
  intro i dl off w hs hl hw hn hX hY
  refine ⟨?_,trivial⟩
  show X off=valF ds ins (bindF ds (mkN ts i dl (leafN0 (tkAt ts i)))) k X Y
  rw [hX.1]
  by_cases h1:(tkAt ts i).kind=1
  ·have hb:bindF ds (mkN ts i dl (leafN0 (tkAt ts i))) = { mkN ts i dl (leafN0 (tkAt ts i)) with decl:=findF ds (tkAt ts i).text }:=by
    rw [leafN0_name (hF i) h1];unfold bindF;rw [if_pos (by rfl)];rfl
   rw [hb]
   have hk2:(leafN0 (tkAt ts i)).kind=2:=by rw [leafN0_name (hF i) h1]
   unfold evT valF
   rw [if_pos h1,if_pos (show ({ mkN ts i dl (leafN0 (tkAt ts i)) with decl:=findF ds (tkAt ts i).text }:Nd).kind=2 from hk2)]
   exact hn i (by unfold nms;rw [if_pos h1];simp)
  ·have h2:litT (tkAt ts i)=true:=by
    have:=hs.1
    unfold leafT at this
    have hk:((tkAt ts i).kind == 1)=false:=by simpa using h1
    rwa [hk,Bool.or_false] at this
   unfold evT
   rw [if_neg h1]
   exact lit_val hF h2
 | neg a iha=>
  intro i dl off w hs hl hw hn hX hY
  obtain ⟨h1,h2,h3,h4⟩:=hs
  simp only [Ast.len] at hl
  simp only [wrongR] at hw
  have ha:=ev_bit hF hV a (i+2) k h3 (by omega) (bad_if hw).2
  refine ⟨?_,iha (i+2) dl (off+1) 116 h3 (by omega) (bad_if hw).2 hn hX.2 (fun h=>(hY h).2)⟩
  show X off=valF ds ins (bindF ds (mkN ts i dl { ndZero with kind:=3,a:=off+1 })) k X Y
  rw [hX.1,bind_other (by simp [mkN]),valF3 rfl]
  have e1:=flatV_head hX.2
  show w64 (1 - evT ts V a (i+2) k)=b2i (decide (X (off+1)=0))
  rw [e1]
  rcases ha with ha | ha <;> rw [ha] <;> rw [w64_id _ (by decide) (by decide)] <;> decide
 | ite a b c iha ihb ihc=>
  intro i dl off w hs hl hw hn hX hY
  obtain ⟨h1,h2,h3,h4,h5,h6⟩:=hs
  simp only [Ast.len] at hl
  simp only [wrongR] at hw
  obtain ⟨_,hw⟩:=bad_if hw
  obtain ⟨wa,hw⟩:=or_none hw
  obtain ⟨wb,wc⟩:=or_none hw
  have ha:=ev_bit hF hV a (i+2) k h3 (by omega) wa
  obtain ⟨x0,hX⟩:=hX
  rw [allAt_app,allAt_app,flatV_len,flatV_len] at hX
  obtain ⟨xa,xb,xc⟩:=hX
  have hY':k≠0→AllAt (fun j v=>Y j=v) (off+1) (flatV ts V (k - 1) a (i+2))∧AllAt (fun j v=>Y j=v) (off+1+a.size) (flatV ts V (k - 1) b (i+2+a.len))∧AllAt (fun j v=>Y j=v) (off+1+a.size+b.size) (flatV ts V (k - 1) c (i+2+a.len+b.len)):=fun h=>by
   have:=(hY h).2
   rwa [allAt_app,allAt_app,flatV_len,flatV_len] at this
  simp only [nms,List.mem_append] at hn
  simp only [flat,AllAt]
  rw [allAt_app,allAt_app,flat_len,flat_len]
  refine ⟨?_,iha _ dl _ 116 h3 (by omega) wa (fun j hj=>hn j (.inl hj)) xa (fun h=>(hY' h).1),ihb _ dl _ w h4 (by omega) wb (fun j hj=>hn j (.inr (.inl hj))) xb (fun h=>(hY' h).2.1),ihc _ dl _ w h5 (by omega) wc (fun j hj=>hn j (.inr (.inr hj))) xc (fun h=>(hY' h).2.2)⟩
  rw [x0,bind_other (by simp [mkN]),valF4 rfl]
  have e1:=flatV_head xa
  have e2:=flatV_head xb
  have e3:=flatV_head xc
  show (if evT ts V a (i+2) k=1 then evT ts V b (i+2+a.len) k else evT ts V c (i+2+a.len+b.len) k)=if X (off+1)≠0 then X (off+1+a.size) else X (off+1+a.size+b.size)
  rw [e1,e2,e3]
  rcases ha with ha | ha <;> rw [ha] <;> rfl
 | dly b ihb=>
  intro i dl off w hs hl hw hn hX hY
  obtain ⟨h1,h2,h3,h4,h5⟩:=hs
  simp only [Ast.len] at hl
  simp only [wrongR] at hw
  obtain ⟨_,hw⟩:=bad_if hw
  obtain ⟨hb,hc⟩:=or_none hw
  obtain ⟨x0,x1,x2⟩:=hX
  refine ⟨?_,?_,ihb (i+3) (dl+1) (off+2) w h4 (by omega) hc hn x2 (fun h=>(hY h).2.2)⟩
  ·show X off=valF ds ins (bindF ds (mkN ts i dl { ndZero with kind:=5,a:=off+1,b:=off+2 })) k X Y
   rw [x0,bind_other (by simp [mkN]),valF5 rfl]
   show _=if k=0 then X (off+1) else Y (off+2)
   cases k with
   | zero=>rw [if_pos rfl,x1];rfl
   | succ n=>
    rw [if_neg (by omega)]
    have:=(hY (by omega)).2.2
    rw [flatV_head this];rfl
  ·show X (off+1)=valF ds ins (bindF ds (mkN ts (i+1) dl (leafN0 (tkAt ts (i+1))))) k X Y
   rw [x1];exact lit_val hF h2
 | bin a b iha ihb=>
  intro i dl off w hs hl hw hn hX hY
  obtain ⟨h1,h2,h3,h4,h5⟩:=hs
  simp only [Ast.len] at hl
  simp only [wrongR] at hw
  obtain ⟨_,hw⟩:=bad_if hw
  obtain ⟨wa,wb⟩:=or_none hw
  obtain ⟨x0,hX⟩:=hX
  rw [allAt_app,flatV_len] at hX
  obtain ⟨xa,xb⟩:=hX
  have hY':k≠0→AllAt (fun j v=>Y j=v) (off+1) (flatV ts V (k - 1) a (i+1))∧AllAt (fun j v=>Y j=v) (off+1+a.size) (flatV ts V (k - 1) b (i+2+a.len)):=fun h=>by
   have:=(hY h).2
   rwa [allAt_app,flatV_len] at this
  simp only [nms,List.mem_append] at hn
  simp only [flat,AllAt]
  rw [allAt_app,flat_len]
  refine ⟨?_,iha _ dl _ _ h2 (by omega) wa (fun j hj=>hn j (.inl hj)) xa (fun h=>(hY' h).1),ihb _ dl _ _ h4 (by omega) wb (fun j hj=>hn j (.inr hj)) xb (fun h=>(hY' h).2)⟩
  rw [x0,bind_other (by simp [mkN]),valF6 rfl]
  have e1:=flatV_head xa
  have e2:=flatV_head xb
  show apF (lAt ts (i+1+a.len)) (evT ts V a (i+1) k) (evT ts V b (i+2+a.len) k)=pairF ((opOf (lAt ts (i+1+a.len))).getD 0) (X (off+1)) (X (off+1+a.size))
  rw [e1,e2]
  refine pair_ap h3 fun ho=>?_
  have hbo:bothR (lAt ts (i+1+a.len))=116:=by unfold bothR;rw [if_pos ho]
  rw [hbo] at wa wb
  exact ⟨ev_bit hF hV a _ k h2 (by omega) wa,ev_bit hF hV b _ k h4 (by omega) wb⟩
end
theorem flat_head {ts:List Tk}:∀ (t:Ast) (i dl off:Nat),∃ n l,flat ts t i dl off=n :: l∧n.delayed=decide (0<dl):=by
 intro t i dl off
 cases t <;> exact ⟨_,_,rfl,rfl⟩
theorem flat_first {ts:List Tk}{D:Nat→Bool}{t:Ast}{i dl off:Nat} (h:AllAt (fun j n=>D j=n.delayed) off (flat ts t i dl off)):D off=decide (0<dl):=by
 obtain ⟨n,l,e,hn⟩:=flat_head t i dl off (ts:=ts)
 rw [e] at h
 rw [h.1,hn]
theorem leafN0_needs {ts:List Tk} (i dl:Nat) (t:Tk):needs (mkN ts i dl (leafN0 t))=[]:=by
 have:(mkN ts i dl (leafN0 t)).kind≤2:=by
  rw [mkN_kind]
  unfold leafN0
  split;· simp
  split;· simp
  split;· simp
  ·simp
 unfold needs
 rw [if_neg (by omega),if_neg (by omega),if_neg (by omega),if_neg (by omega)]
theorem flat_kids {ts:List Tk}{D:Nat→Bool}:∀ (t:Ast) (i dl off fin:Nat),off+t.size≤fin→AllAt (fun j n=>D j=n.delayed) off (flat ts t i dl off)→
  AllAt (fun j n=>∀ c∈needs n,j<c∧c<fin∧D c=n.delayed) off (flat ts t i dl off):=by
 intro t
 induction t with
 | leaf=>intro i dl off fin hf h;exact ⟨fun c hc=>by rw [leafN0_needs] at hc;simp at hc,trivial⟩
 | neg a iha=>
  intro i dl off fin hf h
  simp only [Ast.size] at hf
  have pa:=a.size_pos
  refine ⟨fun c hc=>?_,iha _ dl _ fin (by omega) h.2⟩
  have hc':c=off+1:=by simpa [needs,mkN] using hc
  subst hc'
  exact ⟨by omega,by omega,flat_first h.2⟩
 | ite a b c iha ihb ihc=>
  intro i dl off fin hf h
  simp only [Ast.size] at hf
  have pa:=a.size_pos
  have pb:=b.size_pos
  have pc:=c.size_pos
  obtain ⟨h0,h⟩:=h
  rw [allAt_app,allAt_app,flat_len,flat_len] at h
  obtain ⟨ha,hb,hc⟩:=h
  simp only [flat,AllAt]
  rw [allAt_app,allAt_app,flat_len,flat_len]
  refine ⟨fun d hd=>?_,iha _ dl _ fin (by omega) ha,ihb _ dl _ fin (by omega) hb,ihc _ dl _ fin (by omega) hc⟩
  have hd':d=off+1∨d=off+1+a.size∨d=off+1+a.size+b.size:=by simpa [needs,mkN] using hd
  rcases hd' with rfl | rfl | rfl
  ·exact ⟨by omega,by omega,flat_first ha⟩
  ·exact ⟨by omega,by omega,flat_first hb⟩
  ·exact ⟨by omega,by omega,flat_first hc⟩
 | dly b ihb=>
  intro i dl off fin hf h
  simp only [Ast.size] at hf
  refine ⟨fun c hc=>?_,fun c hc=>by rw [leafN0_needs] at hc;simp at hc,ihb _ (dl+1) _ fin (by omega) h.2.2⟩
  have hc':c=off+1:=by simpa [needs,mkN] using hc
  subst hc'
  exact ⟨by omega,by omega,h.2.1⟩
 | bin a b iha ihb=>
  intro i dl off fin hf h
  simp only [Ast.size] at hf
  have pa:=a.size_pos
  have pb:=b.size_pos
  obtain ⟨h0,h⟩:=h
  rw [allAt_app,flat_len] at h
  obtain ⟨ha,hb⟩:=h
  simp only [flat,AllAt]
  rw [allAt_app,flat_len]
  refine ⟨fun d hd=>?_,iha _ dl _ fin (by omega) ha,ihb _ dl _ fin (by omega) hb⟩
  have hd':d=off+1∨d=off+1+a.size:=by simpa [needs,mkN] using hd
  rcases hd' with rfl | rfl
  ·exact ⟨by omega,by omega,flat_first ha⟩
  ·exact ⟨by omega,by omega,flat_first hb⟩
structure Lt where
 t:Ast
 i:Nat
 dl:Nat
 o:Nat
structure WSt where
 ops:List OpF
 cells:List Int
 later:List Lt
structure WEnv where
 ts:List Tk
 ds:List Dc
 pl:Int
 lk:List Rt
 rs:List Nat
def plAt (ds:List Dc) (i:Int):Nat:=(ds.getD i.toNat ⟨0,0,⟨#[]⟩,0,0,0,0⟩).place
def wAdd (s:WSt) (o:OpF):WSt × Nat:=(⟨s.ops ++ [o],s.cells,s.later⟩,s.ops.length)
def wFind (lk:List Rt) (num:Nat):Nat × Bool:=
 match lk.findIdx? (fun r=>r.src == num) with
 | some i=>(i,((lk[i]?).map Rt.late).getD false)
 | none=>(0,false)
def wLink (E:WEnv) (n:Nd):Nat × Bool:=if n.kind≠2∨kindAt E.ds n.decl=0 then (0,false) else wFind E.lk (numAt E.ds n.decl)
def wName (E:WEnv) (s:WSt) (n:Nd):WSt × Nat:=
 if kindAt E.ds n.decl=0 then wAdd s ⟨1,(numAt E.ds n.decl:Nat),0,0⟩
 else if ((plAt E.ds n.decl:Nat):Int)=E.pl then (s,E.rs.getD n.decl.toNat 0)
 else wAdd s ⟨2,((wLink E n).1:Nat),0,0⟩
def wLeaf (E:WEnv) (s:WSt) (n:Nd):WSt × Nat:=if n.kind=2 then wName E s n else wAdd s ⟨0,(n.value:Nat),0,0⟩
def wHand (E:WEnv) (s:WSt) (first fol:Nd):WSt × Nat:=
 wAdd (wName E (wAdd (wAdd s ⟨4,0,0,0⟩).1 ⟨0,(first.value:Nat),0,0⟩).1 fol).1
  ⟨14,(s.ops.length:Nat),((s.ops.length+1:Nat):Int),((wName E (wAdd (wAdd s ⟨4,0,0,0⟩).1 ⟨0,(first.value:Nat),0,0⟩).1 fol).2:Nat)⟩
def wCell (s:WSt) (first:Nd) (l:Lt):WSt × Nat:=(⟨s.ops ++ [⟨3,(s.cells.length:Nat),0,0⟩],s.cells ++ [((first.value:Nat):Int)],s.later ++ [l]⟩,s.ops.length)
def leafB (E:WEnv) (i dl:Nat):Nd:=bindF E.ds (mkN E.ts i dl (leafN0 (tkAt E.ts i)))
def lateB (E:WEnv):Ast→Nat→Bool
 | .leaf,i=>(wLink E (leafB E i 0)).2
 | _,_=>false
def wExpr (E:WEnv):Ast→Nat→Nat→Nat→WSt→WSt × Nat
 | .leaf,i,dl,_,s=>wLeaf E s (leafB E i dl)
 | .neg a,i,dl,o,s=>wAdd (wExpr E a (i+2) dl (o+1) s).1 ⟨13,((wExpr E a (i+2) dl (o+1) s).2:Nat),0,0⟩
 | .ite a b c,i,dl,o,s=>
  let x:=wExpr E a (i+2) dl (o+1) s
  let y:=wExpr E b (i+2+a.len) dl (o+1+a.size) x.1
  let z:=wExpr E c (i+2+a.len+b.len) dl (o+1+a.size+b.size) y.1
  wAdd z.1 ⟨14,(x.2:Nat),(y.2:Nat),(z.2:Nat)⟩
 | .dly b,i,dl,o,s=>if lateB E b (i+3)=true then wHand E s (leafB E (i+1) dl) (leafB E (i+3) (dl+1)) else wCell s (leafB E (i+1) dl) ⟨b,i+3,dl+1,o+2⟩
 | .bin a b,i,dl,o,s=>
  let x:=wExpr E a (i+1) dl (o+1) s
  let y:=wExpr E b (i+2+a.len) dl (o+1+a.size) x.1
  wAdd y.1 ⟨((opOf (lAt E.ts (i+1+a.len))).getD 0:Nat),(x.2:Nat),(y.2:Nat),0⟩
theorem leafB_dl (E:WEnv) (i dl dl':Nat):(leafB E i dl).kind=(leafB E i dl').kind∧(leafB E i dl).decl=(leafB E i dl').decl∧(leafB E i dl).value=(leafB E i dl').value:=by
 unfold leafB bindF
 by_cases h:(leafN0 (tkAt E.ts i)).kind=2
 ·rw [if_pos (show (mkN E.ts i dl (leafN0 (tkAt E.ts i))).kind=2 from h),if_pos (show (mkN E.ts i dl' (leafN0 (tkAt E.ts i))).kind=2 from h)]
  exact ⟨rfl,rfl,rfl⟩
 ·rw [if_neg (show ¬ (mkN E.ts i dl (leafN0 (tkAt E.ts i))).kind=2 from h),if_neg (show ¬ (mkN E.ts i dl' (leafN0 (tkAt E.ts i))).kind=2 from h)]
  exact ⟨rfl,rfl,rfl⟩
theorem wLink_dl (E:WEnv) (i dl dl':Nat):wLink E (leafB E i dl)=wLink E (leafB E i dl'):=by
 obtain ⟨h1,h2,_⟩:=leafB_dl E i dl dl'
 unfold wLink;rw [h1,h2]
def Pre (s F:WSt):Prop:=∃ o c l,F=⟨s.ops ++ o,s.cells ++ c,s.later ++ l⟩
theorem Pre.refl (s:WSt):Pre s s:=⟨[],[],[],by simp⟩
theorem Pre.trans {a b c:WSt} (h:Pre a b) (k:Pre b c):Pre a c:=by
 obtain ⟨o,x,l,rfl⟩:=h
 obtain ⟨o',x',l',rfl⟩:=k
 exact ⟨o ++ o',x ++ x',l ++ l',by simp⟩
theorem Pre.op {s F:WSt} (h:Pre s F) {j:Nat}{o:OpF} (hj:s.ops[j]? = some o):F.ops[j]? = some o:=by
 obtain ⟨a,b,c,rfl⟩:=h
 show (s.ops ++ a)[j]? = _
 rw [List.getElem?_append_left (List.getElem?_eq_some_iff.1 hj).1];exact hj
theorem Pre.cell {s F:WSt} (h:Pre s F) {j:Nat}{o:Int} (hj:s.cells[j]? = some o):F.cells[j]? = some o:=by
 obtain ⟨a,b,c,rfl⟩:=h
 show (s.cells ++ b)[j]? = _
 rw [List.getElem?_append_left (List.getElem?_eq_some_iff.1 hj).1];exact hj
theorem Pre.lat {s F:WSt} (h:Pre s F) {j:Nat}{o:Lt} (hj:s.later[j]? = some o):F.later[j]? = some o:=by
 obtain ⟨a,b,c,rfl⟩:=h
 show (s.later ++ c)[j]? = _
 rw [List.getElem?_append_left (List.getElem?_eq_some_iff.1 hj).1];exact hj
theorem Pre.len {s F:WSt} (h:Pre s F):s.ops.length≤F.ops.length∧s.cells.length≤F.cells.length∧s.later.length≤F.later.length:=by
 obtain ⟨a,b,c,rfl⟩:=h
 simp
theorem pre_add (s:WSt) (o:OpF):Pre s (wAdd s o).1:=⟨[o],[],[],by simp [wAdd]⟩
theorem pre_name (E:WEnv) (s:WSt) (n:Nd):Pre s (wName E s n).1:=by
 unfold wName
 split
 ·exact pre_add s _
 ·split
  ·exact Pre.refl s
  ·exact pre_add s _
theorem pre_leaf (E:WEnv) (s:WSt) (n:Nd):Pre s (wLeaf E s n).1:=by
 unfold wLeaf
 split
 ·exact pre_name E s n
 ·exact pre_add s _
theorem pre_hand (E:WEnv) (s:WSt) (a b:Nd):Pre s (wHand E s a b).1:=
 (((pre_add s _).trans (pre_add _ _)).trans (pre_name E _ b)).trans (pre_add _ _)
theorem pre_expr (E:WEnv):∀ (t:Ast) (i dl o:Nat) (s:WSt),Pre s (wExpr E t i dl o s).1:=by
 intro t
 induction t with
 | leaf=>intro i dl o s;exact pre_leaf E s _
 | neg a iha=>intro i dl o s;exact (iha _ _ _ s).trans (pre_add _ _)
 | ite a b c iha ihb ihc=>intro i dl o s;exact (((iha _ _ _ s).trans (ihb _ _ _ _)).trans (ihc _ _ _ _)).trans (pre_add _ _)
 | dly b ihb=>
  intro i dl o s
  simp only [wExpr]
  split
  ·exact pre_hand E s _ _
  ·exact ⟨_,_,_,rfl⟩
 | bin a b iha ihb=>intro i dl o s;exact ((iha _ _ _ s).trans (ihb _ _ _ _)).trans (pre_add _ _)
def lw (l:List Lt):Nat:=(l.map fun x=>x.t.len).sum
def lf (ts:List Tk) (l:List Lt):Nat:=(l.map fun x=>fbyT ts x.i x.t.len).sum
theorem lw_app (a b:List Lt):lw (a ++ b)=lw a+lw b:=by simp [lw]
theorem lf_app (ts:List Tk) (a b:List Lt):lf ts (a ++ b)=lf ts a+lf ts b:=by simp [lf]
theorem fbyT_add (ts:List Tk) (b m n:Nat):fbyT ts b (m+n)=fbyT ts b m+fbyT ts (b+m) n:=by
 unfold fbyT
 rw [range_split,List.filter_append,List.length_append]
structure Wle (ts:List Tk) (s s':WSt) (len f:Nat):Prop where
 ops:s'.ops.length+lw s'.later≤s.ops.length+lw s.later+len
 cells:s'.cells.length+lf ts s'.later≤s.cells.length+lf ts s.later+f
 same:s'.cells.length+s.later.length=s.cells.length+s'.later.length
theorem Wle.trans {ts:List Tk}{a b c:WSt}{l f l' f':Nat} (h:Wle ts a b l f) (k:Wle ts b c l' f'):Wle ts a c (l+l') (f+f'):=by
 have h1:=h.ops;have h2:=h.cells;have h3:=h.same;have h4:=k.ops;have h5:=k.cells;have h6:=k.same
 exact ⟨by omega,by omega,by omega⟩
theorem Wle.mono {ts:List Tk}{a b:WSt}{l f l' f':Nat} (h:Wle ts a b l f) (h1:l≤l') (h2:f≤f'):Wle ts a b l' f':=by
 have h1:=h.ops;have h2:=h.cells
 exact ⟨by omega,by omega,h.same⟩
theorem wle_add (ts:List Tk) (s:WSt) (o:OpF):Wle ts s (wAdd s o).1 1 0:=⟨by simp [wAdd];omega,by simp [wAdd],by simp [wAdd]⟩
theorem wle_refl (ts:List Tk) (s:WSt):Wle ts s s 0 0:=⟨by omega,by omega,by omega⟩
theorem wle_name (E:WEnv) (s:WSt) (n:Nd):Wle E.ts s (wName E s n).1 1 0:=by
 unfold wName
 split
 ·exact wle_add _ s _
 ·split
  ·exact (wle_refl _ s).mono (by omega) (by omega)
  ·exact wle_add _ s _
theorem wle_leaf (E:WEnv) (s:WSt) (n:Nd):Wle E.ts s (wLeaf E s n).1 1 0:=by
 unfold wLeaf
 split
 ·exact wle_name E s n
 ·exact wle_add _ s _
theorem wle_expr (E:WEnv):∀ (t:Ast) (i dl o:Nat) (s:WSt),Sp E.ts t i→Wle E.ts s (wExpr E t i dl o s).1 t.len (fbyT E.ts i t.len):=by
 intro t
 induction t with
 | leaf=>intro i dl o s _;exact (wle_leaf E s _).mono (Nat.le_refl _) (by omega)
 | neg a iha=>
  intro i dl o s hs
  refine ((iha (i+2) dl (o+1) s hs.2.2.1).trans (wle_add E.ts _ _)).mono (by simp only [Ast.len];omega) ?_
  simp only [Ast.len]
  rw [show a.len+3=2+(a.len+1) by omega,fbyT_add,fbyT_add];omega
 | ite a b c iha ihb ihc=>
  intro i dl o s hs
  refine ((((iha (i+2) dl (o+1) s hs.2.2.1).trans (ihb (i+2+a.len) dl (o+1+a.size) _ hs.2.2.2.1)).trans (ihc (i+2+a.len+b.len) dl (o+1+a.size+b.size) _ hs.2.2.2.2.1)).trans (wle_add E.ts _ _)).mono (by simp only [Ast.len];omega) ?_
  simp only [Ast.len]
  rw [show a.len+b.len+c.len+3=2+(a.len+(b.len+(c.len+1))) by omega,fbyT_add,fbyT_add,fbyT_add,fbyT_add];omega
 | dly b ihb=>
  intro i dl o s hs
  obtain ⟨_,_,h3,_,_⟩:=hs
  have e1:fbyT E.ts i (b.len+4)=fbyT E.ts i 2+1+fbyT E.ts (i+3) b.len+fbyT E.ts (i+3+b.len) 1:=by
   rw [show b.len+4=2+(1+(b.len+1)) by omega,fbyT_add,fbyT_add,fbyT_add,show fbyT E.ts (i+2) 1=1 by
    rw [show (1:Nat)=0+1 from rfl,fbyT_succ,Nat.add_zero,if_pos h3];rfl,show i+2+1=i+3 from rfl]
   omega
  simp only [wExpr,Ast.len]
  split
  ·rename_i hl
   have:b = .leaf:=by
    cases b <;> simp [lateB] at hl ⊢
   subst this
   refine (((((wle_add E.ts s _).trans (wle_add E.ts _ _)).trans (wle_name E _ _)).trans (wle_add E.ts _ _))).mono (by simp [Ast.len]) (by omega)
  ·refine ⟨?_,?_,?_⟩
   ·simp only [wCell,List.length_append,List.length_singleton,lw_app]
    simp [lw];omega
   ·simp only [wCell,List.length_append,List.length_singleton,lf_app]
    rw [e1]
    simp [lf];omega
   ·simp [wCell];omega
 | bin a b iha ihb=>
  intro i dl o s hs
  refine (((iha (i+1) dl (o+1) s hs.2.1).trans (ihb (i+2+a.len) dl (o+1+a.size) _ hs.2.2.2.1)).trans (wle_add E.ts _ _)).mono (by simp only [Ast.len];omega) ?_
  simp only [Ast.len]
  rw [show a.len+b.len+3=1+(a.len+(1+(b.len+1))) by omega,fbyT_add,fbyT_add,fbyT_add,fbyT_add]
  rw [show i+1+a.len+1=i+2+a.len by omega];omega
theorem later_nameA (E:WEnv) (s:WSt) (n:Nd):(wName E s n).1.later=s.later:=by
 unfold wName
 split
 ·rfl
 ·split <;> rfl
theorem wx_gain (E:WEnv):∀ (t:Ast) (i dl o:Nat) (s:WSt),lw (wExpr E t i dl o s).1.later<lw s.later+t.len:=by
 intro t
 induction t with
 | leaf=>
  intro i dl o s
  simp only [wExpr,wLeaf,Ast.len]
  split
  ·rw [later_nameA];omega
  ·simp [wAdd]
 | neg a iha=>intro i dl o s;have:=iha (i+2) dl (o+1) s;simp only [Ast.len];show lw (wExpr E a (i+2) dl (o+1) s).1.later<_;omega
 | ite a b c iha ihb ihc=>
  intro i dl o s
  have h1:=iha (i+2) dl (o+1) s
  have h2:=ihb (i+2+a.len) dl (o+1+a.size) (wExpr E a (i+2) dl (o+1) s).1
  have h3:=ihc (i+2+a.len+b.len) dl (o+1+a.size+b.size) (wExpr E b (i+2+a.len) dl (o+1+a.size) (wExpr E a (i+2) dl (o+1) s).1).1
  simp only [Ast.len]
  show lw (wExpr E c _ dl _ _).1.later<_
  omega
 | dly b ihb=>
  intro i dl o s
  simp only [wExpr,Ast.len]
  split
  ·show lw (wName E _ _).1.later<_
   rw [later_nameA]
   show lw s.later<_
   omega
  ·simp only [wCell,lw_app]
   simp [lw]
 | bin a b iha ihb=>
  intro i dl o s
  have h1:=iha (i+1) dl (o+1) s
  have h2:=ihb (i+2+a.len) dl (o+1+a.size) (wExpr E a (i+1) dl (o+1) s).1
  simp only [Ast.len]
  show lw (wExpr E b _ dl _ _).1.later<_
  omega
theorem regsF_app (n:Int) (cells ins links:List Int):∀ (l m:List OpF) (regs:List Int),regsF n cells ins links regs (l ++ m)=regsF n cells ins links (regsF n cells ins links regs l) m:=by
 intro l
 induction l with
 | nil=>intro m regs;rfl
 | cons a r ih=>intro m regs;exact ih m _
theorem regsF_more (n:Int) (cells ins links:List Int):∀ (l:List OpF) (regs:List Int),∃ x,regsF n cells ins links regs l=regs ++ x:=by
 intro l
 induction l with
 | nil=>intro regs;exact ⟨[],by simp [regsF]⟩
 | cons a r ih=>
  intro regs
  obtain ⟨x,hx⟩:=ih (regs ++ [laysF a n regs cells ins links])
  exact ⟨[laysF a n regs cells ins links] ++ x,by simp only [regsF];rw [hx,List.append_assoc]⟩
theorem lays_congr {o:OpF} (h0:0≤o.k) (h1:o.k≤14) {n:Int}{cells ins links r r':List Int} (h:∀ x∈(opArgs o).take (readsF o.k),atF r x=atF r' x):laysF o n r cells ins links=laysF o n r' cells ins links:=by
 unfold laysF
 by_cases k0:o.k=0;· rw [if_pos k0,if_pos k0]
 rw [if_neg k0,if_neg k0]
 by_cases k1:o.k=1;· rw [if_pos k1,if_pos k1]
 rw [if_neg k1,if_neg k1]
 by_cases k2:o.k=2;· rw [if_pos k2,if_pos k2]
 rw [if_neg k2,if_neg k2]
 by_cases k3:o.k=3;· rw [if_pos k3,if_pos k3]
 rw [if_neg k3,if_neg k3]
 by_cases k4:o.k=4;· rw [if_pos k4,if_pos k4]
 rw [if_neg k4,if_neg k4]
 have ha:atF r o.a=atF r' o.a:=h _ (by
  unfold readsF opArgs
  rw [if_neg (by omega)]
  split
  ·simp
  ·split <;> simp)
 have hb:o.k≠13→atF r o.b=atF r' o.b:=fun hk=>h _ (by
  unfold readsF opArgs
  rw [if_neg (by omega),if_neg hk]
  split <;> simp)
 have hc:o.k=14→atF r o.c=atF r' o.c:=fun hk=>h _ (by
  unfold readsF opArgs
  rw [if_neg (by omega),if_neg (by omega),if_pos hk]
  simp)
 by_cases k13:o.k=13
 ·simp only [k13,ha]
  rfl
 ·rw [ha,hb k13]
  by_cases k14:o.k=14
  ·rw [hc k14]
  ·by_cases k5:o.k=5;· rw [if_pos k5,if_pos k5]
   rw [if_neg k5,if_neg k5]
   by_cases k6:o.k=6;· rw [if_pos k6,if_pos k6]
   rw [if_neg k6,if_neg k6]
   by_cases k7:o.k=7;· rw [if_pos k7,if_pos k7]
   rw [if_neg k7,if_neg k7]
   by_cases k8:o.k=8;· rw [if_pos k8,if_pos k8]
   rw [if_neg k8,if_neg k8]
   by_cases k9:o.k=9;· rw [if_pos k9,if_pos k9]
   rw [if_neg k9,if_neg k9]
   by_cases k10:o.k=10;· rw [if_pos k10,if_pos k10]
   rw [if_neg k10,if_neg k10]
   by_cases k11:o.k=11;· rw [if_pos k11,if_pos k11]
   rw [if_neg k11,if_neg k11]
   by_cases k12:o.k=12;· rw [if_pos k12,if_pos k12]
   omega
theorem opOk_parts {nc j:Nat}{o:OpF} (h:opOk nc j o=true):0≤o.k∧o.k≤14∧∀ x∈(opArgs o).take (readsF o.k),regOk j x=true:=by
 unfold opOk at h
 simp only [Bool.and_eq_true,decide_eq_true_eq,List.all_eq_true] at h
 obtain ⟨⟨⟨h1,h2⟩,_⟩,h4⟩:=h
 exact ⟨h1,h2,h4⟩
theorem atF_nat (l:List Int) (j:Nat):atF l (j:Int)=l.getD j 0:=by
 unfold atF;rw [if_neg (by omega),Int.toNat_natCast]
theorem atF_pre {l x:List Int}{r:Int} (h:regOk l.length r=true):atF (l ++ x) r=atF l r:=by
 unfold regOk at h
 simp only [Bool.and_eq_true,decide_eq_true_eq] at h
 unfold atF
 rw [if_neg (by omega),if_neg (by omega),List.getD_eq_getElem?_getD,List.getD_eq_getElem?_getD,List.getElem?_append_left (by omega)]
theorem reg_at {ops:List OpF}{n:Int}{cells ins links:List Int}{nc j:Nat}{o:OpF} (hj:ops[j]? = some o) (hok:opOk nc j o=true) :
  atF (regsF n cells ins links [] ops) (j:Int)=laysF o n (regsF n cells ins links [] ops) cells ins links:=by
 obtain ⟨hl,hg⟩:=List.getElem?_eq_some_iff.1 hj
 have e:ops=ops.take j ++ (o :: ops.drop (j+1)):=by
  rw [← hg,← List.drop_eq_getElem_cons hl,List.take_append_drop]
 obtain ⟨P,hP⟩:∃ P,P=regsF n cells ins links [] (ops.take j):=⟨_,rfl⟩
 have hPl:P.length=j:=by rw [hP,regsF_len];simp;omega
 obtain ⟨x,hx⟩:=regsF_more n cells ins links (ops.drop (j+1)) (P ++ [laysF o n P cells ins links])
 have e2:regsF n cells ins links [] ops=P ++ ([laysF o n P cells ins links] ++ x):=by
  conv=>lhs;rw [e]
  rw [regsF_app,← hP]
  show regsF n cells ins links (P ++ [laysF o n P cells ins links]) (ops.drop (j+1))=_
  rw [hx,List.append_assoc]
 obtain ⟨h0,h1,h2⟩:=opOk_parts hok
 rw [e2,atF_nat,List.getD_eq_getElem?_getD,List.getElem?_append_right (by omega),hPl,Nat.sub_self]
 show laysF o n P cells ins links=_
 exact lays_congr h0 h1 (fun r hr=>(atF_pre (by rw [hPl];exact h2 r hr)).symm)
end Go.Proofs.YtmndgoapkmhglaaGreat
namespace Go.Proofs.YtmndgoapkmhglaaGreat
open Go.RowKit
def opCells (l:List OpF):List Value:=l.flatMap fun o=>[.int .i64 o.k,.int .i64 o.a,.int .i64 o.b,.int .i64 o.c]
end Go.Proofs.YtmndgoapkmhglaaGreat
