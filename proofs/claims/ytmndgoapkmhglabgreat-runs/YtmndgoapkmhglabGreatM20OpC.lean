import Derived.Deep.OwnRows
import Derived.Test.YtmndgoapkmhglabGreatM00Base
import Derived.Test.YtmndgoapkmhglabGreatM03ParB
import Derived.Test.YtmndgoapkmhglabGreatM18RefF
namespace Go.Proofs.YtmndgoapkmhglabGreat
open Go.RowKit
def pCells (l:List Nat):List Value:=l.map fun (n:Nat)=>Value.int .i64 (n:Int)
theorem pCells_snoc (l:List Nat) (n:Nat):pCells (l ++ [n])=pCells l ++ [.int .i64 (n:Int)]:=by simp [pCells]
theorem Tryz.infoInt:(Tryz.prog.info? 3).map (fun i=>(i.zero,i.size,i.bytes))=some (some (.int .i64 0),1,8):=by kernel_rfl
end Go.Proofs.YtmndgoapkmhglabGreat
namespace Go.Proofs.YtmndgoapkmhglabGreat
structure OpF where
 k:Int
 a:Int
 b:Int
 c:Int
structure EvF where
 k:Int
 a:Int
 did:Int
 n:Int
 took:List Nat
 vals:List Int
structure LnF where
 src:Int
 dst:Int
 late:Bool
abbrev PastF:=List (OpF × EvF)
def isD (pl what:Int) (x:OpF × EvF):Bool:=decide (x.2.k=pl) && decide (x.2.did=what)
def didF (P:PastF) (pl what now:Int) (data:Bool):Nat:=(P.filter fun x=>isD pl what x && decide (x.2.a+(if data then x.1.c else 0)≤now)).length
def takenF (now:Int) (l:Nat) (ack:Bool):PastF→Nat
 | []=>0
 | x :: P=>(if x.2.a+(if ack then x.1.b else 0)≤now then x.2.took.count l else 0)+takenF now l ack P
def lnAt (N:List LnF) (l:Nat):LnF:=N.getD l ⟨-1,-1,false⟩
def lateN (N:List LnF) (l:Nat):Nat:=if (lnAt N l).late then 1 else 0
def slotF (N:List LnF) (P:PastF) (a:OpF) (l:Nat):Int:=(takenF a.a l false P:Int)+lateN N l - didF P a.k 1 a.a false
def canF (N:List LnF) (P:PastF) (a:OpF) (l:Nat):Bool:=decide ((lnAt N l).dst=a.k) && (decide (slotF N P a l=0) && decide (takenF a.a l false P<didF P (lnAt N l).src 2 a.a true))
def tookF (N:List LnF) (P:PastF) (a:OpF):List Nat:=(List.range N.length).filter (canF N P a)
def readyF (N:List LnF) (P:PastF) (a:OpF):Bool:=
 decide (didF P a.k 1 a.a false=didF P a.k 2 a.a false) && (List.range N.length).all fun l=>!decide ((lnAt N l).dst=a.k) || decide ((if canF N P a l then 1 else slotF N P a l)=1)
def freeF (N:List LnF) (P:PastF) (a:OpF):Bool:=
 decide (didF P a.k 2 a.a false<didF P a.k 1 a.a false) && (List.range N.length).all fun l=>!decide ((lnAt N l).src=a.k) || decide (takenF a.a l true P=didF P a.k 2 a.a false)
def wakeF (N:List LnF) (V:Int→Nat→List Int) (P:PastF) (a:OpF):EvF:=
 ⟨a.k,a.a,if readyF N P a then 1 else if freeF N P a then 2 else 0,if readyF N P a then (didF P a.k 1 a.a false:Int) else if freeF N P a then (didF P a.k 2 a.a false:Int) else 0,tookF N P a,if readyF N P a then [] else if freeF N P a then V a.k (didF P a.k 2 a.a false) else []⟩
def runG (N:List LnF) (V:Int→Nat→List Int):PastF→List OpF→PastF
 | P,[]=>P
 | P,a :: r=>runG N V (P ++ [(a,wakeF N V P a)]) r
def cntF (P:PastF) (pl what:Int):Nat:=(P.filter (isD pl what)).length
def tkF (l:Nat):PastF→Nat
 | []=>0
 | x :: P=>x.2.took.count l+tkF l P
def comesF (pl:Int):PastF→Int→Int
 | [],z=>z
 | x :: P,z=>comesF pl P (if isD pl 2 x then x.2.a+x.1.c else z)
def knownF (l:Nat):PastF→Int→Int
 | [],z=>z
 | x :: P,z=>knownF l P (if l∈x.2.took then x.2.a+x.1.b else z)
theorem takenF_app (now:Int) (l:Nat) (ack:Bool):∀ (P Q:PastF),takenF now l ack (P ++ Q)=takenF now l ack P+takenF now l ack Q:=by
 intro P
 induction P with
 | nil=>intro Q;simp [takenF]
 | cons x P ih=>intro Q;simp only [List.cons_append,takenF,ih];omega
theorem tkF_app (l:Nat):∀ (P Q:PastF),tkF l (P ++ Q)=tkF l P+tkF l Q:=by
 intro P
 induction P with
 | nil=>intro Q;simp [tkF]
 | cons x P ih=>intro Q;simp only [List.cons_append,tkF,ih];omega
theorem comesF_app (pl:Int):∀ (P Q:PastF) (z:Int),comesF pl (P ++ Q) z=comesF pl Q (comesF pl P z):=by
 intro P
 induction P with
 | nil=>intro Q z;rfl
 | cons x P ih=>intro Q z;exact ih Q _
theorem knownF_app (l:Nat):∀ (P Q:PastF) (z:Int),knownF l (P ++ Q) z=knownF l Q (knownF l P z):=by
 intro P
 induction P with
 | nil=>intro Q z;rfl
 | cons x P ih=>intro Q z;exact ih Q _
theorem cntF_snoc (P:PastF) (x:OpF × EvF) (pl what:Int):cntF (P ++ [x]) pl what=cntF P pl what+(if isD pl what x then 1 else 0):=by
 unfold cntF
 rw [List.filter_append,List.length_append]
 cases h:isD pl what x <;> simp [h]
theorem didF_snoc (P:PastF) (x:OpF × EvF) (pl what now:Int) (data:Bool):didF (P ++ [x]) pl what now data=didF P pl what now data+(if isD pl what x && decide (x.2.a+(if data then x.1.c else 0)≤now) then 1 else 0):=by
 unfold didF
 rw [List.filter_append,List.length_append]
 cases h:(isD pl what x && decide (x.2.a+(if data then x.1.c else 0)≤now)) <;> simp [h]
structure PastOk (N:List LnF) (P:PastF) (now:Int):Prop where
 same:∀ x∈P,x.2.k=x.1.k∧x.2.a=x.1.a
 le:∀ x∈P,x.1.a≤now
 gap:P.Pairwise fun x y=>x.1.a≤y.1.a∧(x.1.k=y.1.k→x.1.a+x.1.b<y.1.a∧x.1.a+x.1.c<y.1.a)
 took:∀ x∈P,x.2.took.Nodup∧∀ l∈x.2.took,l<N.length∧(lnAt N l).dst=x.2.k
theorem PastOk.init {N:List LnF}{P:PastF}{x:OpF × EvF}{now:Int} (h:PastOk N (P ++ [x]) now):PastOk N P now∧PastOk N P x.1.a∧x.1.a≤now∧x.2.k=x.1.k∧x.2.a=x.1.a∧(∀ y∈P,y.1.k=x.1.k→y.1.a+y.1.b<x.1.a∧y.1.a+y.1.c<x.1.a):=by
 have hp:=List.pairwise_append.1 h.gap
 have hx:x∈P ++ [x]:=by simp
 have hy:∀ y∈P,y∈P ++ [x]:=fun y hy=>List.mem_append_left _ hy
 refine ⟨⟨fun y m=>h.same y (hy y m),fun y m=>h.le y (hy y m),hp.1,fun y m=>h.took y (hy y m)⟩,⟨fun y m=>h.same y (hy y m),fun y m=>(hp.2.2 y m x (by simp)).1,hp.1,fun y m=>h.took y (hy y m)⟩,h.le x hx,(h.same x hx).1,(h.same x hx).2,fun y m=>(hp.2.2 y m x (by simp)).2⟩
theorem past_ind {p:PastF→Prop} (h0:p []) (h1:∀ P x,p P→p (P ++ [x])):∀ P,p P:=by
 have:∀ n (P:PastF),P.length=n→p P:=by
  intro n
  induction n with
  | zero=>intro P hP;rw [List.length_eq_zero_iff.1 hP];exact h0
  | succ n ih=>
   intro P hP
   have hne:P≠[]:=fun e=>by rw [e] at hP;cases hP
   rw [← List.dropLast_concat_getLast hne]
   exact h1 _ _ (ih _ (by simp [hP]))
 exact fun P=>this P.length P rfl
theorem did_all {N:List LnF}{P:PastF}{now:Int} (h:PastOk N P now) (pl what:Int):didF P pl what now false=cntF P pl what:=by
 unfold didF cntF
 congr 1
 apply List.filter_congr
 intro x hx
 have h1:=h.le x hx
 have h2:=(h.same x hx).2
 have:decide (x.2.a+(if false=true then x.1.c else 0)≤now)=true:=by simp;omega
 rw [this,Bool.and_true]
theorem taken_all {N:List LnF}{now:Int} (l:Nat):∀ {P:PastF},PastOk N P now→takenF now l false P=tkF l P:=by
 intro P
 induction P with
 | nil=>intro _;rfl
 | cons x P ih=>
  intro h
  have h1:=h.le x (by simp)
  have h2:=(h.same x (by simp)).2
  simp only [takenF,tkF]
  rw [if_pos (by simp;omega),ih ⟨fun y m=>h.same y (List.mem_cons_of_mem _ m),fun y m=>h.le y (List.mem_cons_of_mem _ m),(List.pairwise_cons.1 h.gap).2,fun y m=>h.took y (List.mem_cons_of_mem _ m)⟩]
theorem did_come {N:List LnF}{now:Int} (pl:Int):∀ P:PastF,PastOk N P now→didF P pl 2 now true=if comesF pl P 0≤now then cntF P pl 2 else cntF P pl 2 - 1:=by
 refine past_ind (fun _=>by simp [didF,cntF]) (fun P x ih h=>?_)
 obtain ⟨i1,i2,i3,i4,i5,i6⟩:=h.init
 rw [didF_snoc,cntF_snoc,comesF_app]
 rcases Bool.eq_false_or_eq_true (isD pl 2 x) with hx | hx
 rotate_left
 ·have e:comesF pl [x] (comesF pl P 0)=comesF pl P 0:=by simp only [comesF];rw [hx];rfl
  rw [e,hx]
  simp only [Bool.false_and,Bool.false_eq_true,if_false,Nat.add_zero]
  exact ih i1
 ·have e:comesF pl [x] (comesF pl P 0)=x.2.a+x.1.c:=by simp only [comesF];rw [hx];rfl
  rw [e,hx]
  have hk:x.2.k=pl:=by unfold isD at hx;simp at hx;exact hx.1
  have hall:didF P pl 2 now true=cntF P pl 2:=by
   unfold didF cntF
   congr 1
   apply List.filter_congr
   intro y hy
   cases hyd:isD pl 2 y with
   | false=>rfl
   | true=>
    have hky:y.2.k=pl:=by unfold isD at hyd;simp at hyd;exact hyd.1
    have h1:=i1.same y hy
    have h2:=(i6 y hy (by rw [← h1.1,← i4,hky,hk])).2
    rw [Bool.true_and,decide_eq_true_iff,if_pos rfl]
    omega
  rw [hall]
  by_cases hc:x.2.a+x.1.c≤now
  ·simp [hc]
  ·simp [hc]
theorem count_one {t:List Nat} (h:t.Nodup) (l:Nat):t.count l=if l∈t then 1 else 0:=h.count
theorem taken_known {N:List LnF}{now:Int} (l:Nat):∀ P:PastF,PastOk N P now→takenF now l true P=if knownF l P 0≤now then tkF l P else tkF l P - 1:=by
 refine past_ind (fun _=>by simp [takenF,tkF,knownF]) (fun P x ih h=>?_)
 obtain ⟨i1,i2,i3,i4,i5,i6⟩:=h.init
 rw [takenF_app,tkF_app,knownF_app]
 obtain ⟨hnd,htk⟩:=h.took x (by simp)
 simp only [takenF,tkF,knownF,Nat.add_zero]
 rw [count_one hnd l]
 by_cases hm:l∈x.2.took
 ·have hall:takenF now l true P=tkF l P:=by
   have key:∀ Q:PastF,(∀ y∈Q,y∈P)→takenF now l true Q=tkF l Q:=by
    intro Q
    induction Q with
    | nil=>intro _;rfl
    | cons y Q ihQ=>
     intro hQ
     have hyP:=hQ y (by simp)
     simp only [takenF,tkF]
     rw [ihQ (fun z hz=>hQ z (List.mem_cons_of_mem _ hz))]
     obtain ⟨nd,tk⟩:=i1.took y hyP
     rw [count_one nd l]
     by_cases hl:l∈y.2.took
     ·have e1:=(tk l hl).2
      have e2:=(htk l hm).2
      have h1:=i1.same y hyP
      have h2:=(i6 y hyP (by rw [← h1.1,← i4,← e1,← e2])).1
      rw [if_pos (by simp;omega)]
     ·simp [hl]
   exact key P (fun y hy=>hy)
  rw [hall]
  simp only [hm,if_true]
  by_cases hc:x.2.a+x.1.b≤now
  ·simp [hc]
  ·simp [hc]
 ·simp only [hm,if_false,Nat.add_zero]
  rw [ih i1]
  split <;> simp
structure RunInv (N:List LnF) (P:PastF):Prop where
 turn:∀ pl,cntF P pl 2≤cntF P pl 1∧cntF P pl 1≤cntF P pl 2+1
 sent:∀ l,l<N.length→tkF l P≤cntF P (lnAt N l).src 2∧cntF P (lnAt N l).src 2≤tkF l P+1
 slot:∀ l,l<N.length→cntF P (lnAt N l).dst 1≤tkF l P+lateN N l∧tkF l P+lateN N l≤cntF P (lnAt N l).dst 1+1
def Apart (N:List LnF):Prop:=∀ l,l<N.length→(lnAt N l).src≠(lnAt N l).dst
theorem lateN_le (N:List LnF) (l:Nat):lateN N l≤1:=by unfold lateN;split <;> omega
section
variable {N:List LnF} {P:PastF} {a:OpF} (hO:PastOk N P a.a) (hI:RunInv N P)
include hO
theorem slot_eq (l:Nat):slotF N P a l=(tkF l P:Int)+lateN N l - cntF P a.k 1:=by
 unfold slotF;rw [taken_all l hO,did_all hO]
include hI
theorem can_iff {l:Nat} (hl:l<N.length):canF N P a l=true↔(lnAt N l).dst=a.k∧tkF l P<cntF P (lnAt N l).src 2∧comesF (lnAt N l).src P 0≤a.a∧tkF l P+lateN N l=cntF P a.k 1:=by
 have hs:=hI.sent l hl
 unfold canF
 rw [slot_eq hO,taken_all l hO,did_come (lnAt N l).src P hO]
 simp only [Bool.and_eq_true,decide_eq_true_eq]
 constructor
 ·rintro ⟨h1,h2,h3⟩
  split at h3
  ·rename_i hc;exact ⟨h1,h3,hc,by omega⟩
  ·omega
 ·rintro ⟨h1,h2,h3,h4⟩
  refine ⟨h1,by omega,?_⟩
  rw [if_pos h3];exact h2
omit hO hI in
theorem took_mem {l:Nat}:l∈tookF N P a↔l<N.length∧canF N P a l=true:=by
 unfold tookF
 rw [List.mem_filter,List.mem_range]
theorem ready_iff:readyF N P a=true↔cntF P a.k 1=cntF P a.k 2∧∀ l,l<N.length→(lnAt N l).dst=a.k→tkF l P+(if canF N P a l=true then 1 else 0)+lateN N l=cntF P a.k 1+1:=by
 unfold readyF
 rw [did_all hO,did_all hO,Bool.and_eq_true,decide_eq_true_iff,List.all_eq_true]
 refine and_congr Iff.rfl ⟨fun h l hl hd=>?_,fun h l hl=>?_⟩
 ·have:=h l (List.mem_range.2 hl)
  rw [hd] at this
  simp only [decide_true,Bool.not_true,Bool.false_or,decide_eq_true_eq] at this
  by_cases hc:canF N P a l=true
  ·have:=((can_iff hO hI hl).1 hc).2.2.2
   rw [if_pos hc];omega
  ·rw [if_neg hc] at this ⊢
   rw [slot_eq hO] at this
   omega
 ·by_cases hd:(lnAt N l).dst=a.k
  ·have:=h l (List.mem_range.1 hl) hd
   rw [hd]
   simp only [decide_true,Bool.not_true,Bool.false_or,decide_eq_true_eq]
   by_cases hc:canF N P a l=true
   ·rw [if_pos hc]
   ·rw [if_neg hc] at this ⊢
    rw [slot_eq hO];omega
  ·simp [hd]
theorem free_iff:freeF N P a=true↔cntF P a.k 1=cntF P a.k 2+1∧∀ l,l<N.length→(lnAt N l).src=a.k→tkF l P=cntF P a.k 2∧(knownF l P 0≤a.a∨tkF l P=0):=by
 have ht:=hI.turn a.k
 unfold freeF
 rw [did_all hO,did_all hO,Bool.and_eq_true,decide_eq_true_iff,List.all_eq_true]
 refine and_congr (by omega) ⟨fun h l hl hd=>?_,fun h l hl=>?_⟩
 ·have:=h l (List.mem_range.2 hl)
  rw [hd] at this
  simp only [decide_true,Bool.not_true,Bool.false_or,decide_eq_true_eq] at this
  rw [taken_known l P hO] at this
  have hs:=hI.sent l hl
  rw [hd] at hs
  split at this
  ·rename_i hc;exact ⟨this,.inl hc⟩
  ·exact ⟨by omega,.inr (by omega)⟩
 ·by_cases hd:(lnAt N l).src=a.k
  ·obtain ⟨h1,h2⟩:=h l (List.mem_range.1 hl) hd
   rw [hd]
   simp only [decide_true,Bool.not_true,Bool.false_or,decide_eq_true_eq]
   rw [taken_known l P hO]
   split
   ·exact h1
   ·rcases h2 with h2 | h2
    ·omega
    ·omega
  ·simp [hd]
end
theorem known_zero (l:Nat):∀ P:PastF,(∀ x∈P,x.2.took.Nodup)→tkF l P=0→∀ z,knownF l P z=z:=by
 intro P
 induction P with
 | nil=>intro _ _ z;rfl
 | cons x P ih=>
  intro hn h z
  simp only [tkF] at h
  have hm:l ∉ x.2.took:=fun hm=>by
   have:=List.count_pos_iff.2 hm
   omega
  simp only [knownF]
  rw [if_neg hm]
  exact ih (fun y hy=>hn y (List.mem_cons_of_mem _ hy)) (by omega) z
structure ActsOk (sc:List OpF):Prop where
 nn:∀ x∈sc,0≤x.a
 gap:sc.Pairwise fun x y=>x.a≤y.a∧(x.k=y.k→x.a+x.b<y.a∧x.a+x.c<y.a)
theorem tookF_nodup (N:List LnF) (P:PastF) (a:OpF):(tookF N P a).Nodup:=List.Pairwise.filter _ List.nodup_range
theorem tookF_in (N:List LnF) (P:PastF) (a:OpF):∀ l∈tookF N P a,l<N.length∧(lnAt N l).dst=a.k:=by
 intro l hl
 unfold tookF at hl
 rw [List.mem_filter,List.mem_range] at hl
 refine ⟨hl.1,?_⟩
 have:=hl.2
 unfold canF at this
 simp only [Bool.and_eq_true,decide_eq_true_eq] at this
 exact this.1
theorem past_next {N:List LnF}{V:Int→Nat→List Int}{P:PastF}{a:OpF} (hO:PastOk N P a.a) (hg:∀ x∈P,x.1.a≤a.a∧(x.1.k=a.k→x.1.a+x.1.b<a.a∧x.1.a+x.1.c<a.a)):PastOk N (P ++ [(a,wakeF N V P a)]) a.a:=by
 refine ⟨fun x hx=>?_,fun x hx=>?_,?_,fun x hx=>?_⟩
 ·rcases List.mem_append.1 hx with hx | hx
  ·exact hO.same x hx
  ·rw [List.mem_singleton] at hx;subst hx;exact ⟨rfl,rfl⟩
 ·rcases List.mem_append.1 hx with hx | hx
  ·exact hO.le x hx
  ·rw [List.mem_singleton] at hx;subst hx;exact Int.le_refl _
 ·rw [List.pairwise_append]
  exact ⟨hO.gap,List.pairwise_singleton _ _,fun x hx y hy=>by rw [List.mem_singleton] at hy;subst hy;exact hg x hx⟩
 ·rcases List.mem_append.1 hx with hx | hx
  ·exact hO.took x hx
  ·rw [List.mem_singleton] at hx;subst hx;exact ⟨tookF_nodup N P a,tookF_in N P a⟩
theorem PastOk.mono {N:List LnF}{P:PastF}{t u:Int} (h:PastOk N P t) (htu:t≤u):PastOk N P u:=⟨h.same,fun x hx=>Int.le_trans (h.le x hx) htu,h.gap,h.took⟩
theorem cnt_next (N:List LnF) (V:Int→Nat→List Int) (P:PastF) (a:OpF) (pl what:Int):cntF (P ++ [(a,wakeF N V P a)]) pl what=cntF P pl what+(if a.k=pl∧(wakeF N V P a).did=what then 1 else 0):=by
 rw [cntF_snoc]
 congr 1
 have e:isD pl what (a,wakeF N V P a)=decide (a.k=pl∧(wakeF N V P a).did=what):=by
  unfold isD
  show (decide (a.k=pl) && decide ((wakeF N V P a).did=what))=_
  rw [Bool.decide_and]
 rw [e]
 simp only [decide_eq_true_eq]
theorem tk_next (N:List LnF) (V:Int→Nat→List Int) (P:PastF) (a:OpF) {l:Nat} (hl:l<N.length):tkF l (P ++ [(a,wakeF N V P a)])=tkF l P+(if canF N P a l=true then 1 else 0):=by
 rw [tkF_app]
 congr 1
 simp only [tkF,Nat.add_zero]
 show (tookF N P a).count l=_
 rw [count_one (tookF_nodup N P a) l]
 by_cases hc:canF N P a l=true
 ·rw [if_pos hc,if_pos (by unfold tookF;rw [List.mem_filter,List.mem_range];exact ⟨hl,hc⟩)]
 ·rw [if_neg hc,if_neg (by unfold tookF;rw [List.mem_filter];exact fun e=>hc e.2)]
theorem did_cases (N:List LnF) (V:Int→Nat→List Int) (P:PastF) (a:OpF):(readyF N P a=true∧(wakeF N V P a).did=1)∨(readyF N P a=false∧freeF N P a=true∧(wakeF N V P a).did=2)∨(readyF N P a=false∧freeF N P a=false∧(wakeF N V P a).did=0):=by
 unfold wakeF
 cases readyF N P a <;> cases freeF N P a <;> simp
theorem inv_next {N:List LnF}{V:Int→Nat→List Int}{P:PastF}{a:OpF} (hA:Apart N) (hO:PastOk N P a.a) (hI:RunInv N P):RunInv N (P ++ [(a,wakeF N V P a)]):=by
 have hcan:∀ l,l<N.length→canF N P a l=true→(lnAt N l).dst=a.k∧tkF l P<cntF P (lnAt N l).src 2∧tkF l P+lateN N l=cntF P a.k 1:=fun l hl h=>by
  obtain ⟨h1,h2,_,h4⟩:=(can_iff hO hI hl).1 h
  exact ⟨h1,h2,h4⟩
 rcases did_cases N V P a with ⟨hr,hd⟩ | ⟨_,hf,hd⟩ | ⟨_,_,hd⟩
 ·obtain ⟨e1,e2⟩:=(ready_iff hO hI).1 hr
  refine ⟨fun pl=>?_,fun l hl=>?_,fun l hl=>?_⟩
  ·rw [cnt_next,cnt_next,hd]
   have:=hI.turn pl
   by_cases h:a.k=pl
   ·subst h;simp;omega
   ·simp [h];exact this
  ·rw [cnt_next,tk_next N V P a hl,hd]
   have:=hI.sent l hl
   by_cases hc:canF N P a l=true
   ·have h:=hcan l hl hc;rw [if_pos hc];simp;omega
   ·rw [if_neg hc];simpa using this
  ·rw [cnt_next,tk_next N V P a hl,hd]
   have:=hI.slot l hl
   by_cases h:a.k=(lnAt N l).dst
   ·have h3:=e2 l hl h.symm
    rw [← h,if_pos ⟨rfl,rfl⟩];omega
   ·have hc:¬ canF N P a l=true:=fun hc=>h (hcan l hl hc).1.symm
    rw [if_neg hc,if_neg (fun e=>h e.1)];exact this
 ·obtain ⟨e1,e2⟩:=(free_iff hO hI).1 hf
  refine ⟨fun pl=>?_,fun l hl=>?_,fun l hl=>?_⟩
  ·rw [cnt_next,cnt_next,hd]
   have:=hI.turn pl
   by_cases h:a.k=pl
   ·subst h;simp;omega
   ·simp [h];exact this
  ·rw [cnt_next,tk_next N V P a hl,hd]
   have:=hI.sent l hl
   by_cases h:a.k=(lnAt N l).src
   ·have hc:¬ canF N P a l=true:=fun hc=>hA l hl (h.symm.trans (hcan l hl hc).1.symm)
    have:=(e2 l hl h.symm).1
    rw [if_neg hc,if_pos ⟨h,rfl⟩,← h];omega
   ·have hz:(if a.k=(lnAt N l).src∧(2:Int)=2 then 1 else 0)=0:=if_neg (fun e=>h e.1)
    rw [hz]
    by_cases hc:canF N P a l=true
    ·have:=hcan l hl hc;rw [if_pos hc];omega
    ·rw [if_neg hc];exact this
  ·rw [cnt_next,tk_next N V P a hl,hd]
   have:=hI.slot l hl
   have hz:(if a.k=(lnAt N l).dst∧(2:Int)=1 then 1 else 0)=0:=if_neg (fun e=>by have:=e.2;revert this;decide)
   rw [hz]
   by_cases hc:canF N P a l=true
   ·have h:=hcan l hl hc;rw [if_pos hc,h.1];rw [h.1] at this;omega
   ·rw [if_neg hc];exact this
 ·refine ⟨fun pl=>?_,fun l hl=>?_,fun l hl=>?_⟩
  ·rw [cnt_next,cnt_next,hd]
   simpa using hI.turn pl
  ·rw [cnt_next,tk_next N V P a hl,hd]
   have:=hI.sent l hl
   have hz:(if a.k=(lnAt N l).src∧(0:Int)=2 then 1 else 0)=0:=if_neg (fun e=>by have:=e.2;revert this;decide)
   rw [hz]
   by_cases hc:canF N P a l=true
   ·have:=hcan l hl hc;rw [if_pos hc];omega
   ·rw [if_neg hc];exact this
  ·rw [cnt_next,tk_next N V P a hl,hd]
   have:=hI.slot l hl
   have hz:(if a.k=(lnAt N l).dst∧(0:Int)=1 then 1 else 0)=0:=if_neg (fun e=>by have:=e.2;revert this;decide)
   rw [hz]
   by_cases hc:canF N P a l=true
   ·have h:=hcan l hl hc;rw [if_pos hc,h.1];rw [h.1] at this;omega
   ·rw [if_neg hc];exact this
theorem inv_start (N:List LnF):RunInv N []:=⟨fun _=>by simp [cntF],fun l _=>by simp [cntF,tkF],fun l _=>by simp only [cntF,tkF,List.filter_nil,List.length_nil,Nat.zero_add];have:=lateN_le N l;omega⟩
theorem past_start (N:List LnF) (t:Int):PastOk N [] t:=⟨fun x hx=>by simp at hx,fun x hx=>by simp at hx,List.Pairwise.nil,fun x hx=>by simp at hx⟩
theorem run_ind {N:List LnF} (hA:Apart N) (V:Int→Nat→List Int) {p:PastF→Prop} (h1:∀ P a,PastOk N P a.a→RunInv N P→0≤a.a→p P→p (P ++ [(a,wakeF N V P a)])) :
  ∀ (sc:List OpF) (P:PastF),(∀ x∈sc,0≤x.a)→(P.map Prod.fst ++ sc).Pairwise (fun x y=>x.a≤y.a∧(x.k=y.k→x.a+x.b<y.a∧x.a+x.c<y.a))→(∀ t,(∀ x∈P,x.1.a≤t)→PastOk N P t)→RunInv N P→p P→p (runG N V P sc)∧RunInv N (runG N V P sc)∧∀ t,(∀ x∈runG N V P sc,x.1.a≤t)→PastOk N (runG N V P sc) t:=by
 intro sc
 induction sc with
 | nil=>intro P _ _ hO hI hp;exact ⟨hp,hI,hO⟩
 | cons a r ih=>
  intro P hn hg hO hI hp
  have hga:=List.pairwise_append.1 hg
  have hx:∀ x∈P,x.1.a≤a.a∧(x.1.k=a.k→x.1.a+x.1.b<a.a∧x.1.a+x.1.c<a.a):=fun x hx=>hga.2.2 x.1 (List.mem_map.2 ⟨x,hx,rfl⟩) a (by simp)
  have hOa:PastOk N P a.a:=hO a.a (fun x m=>(hx x m).1)
  have hOn:=past_next (V:=V) hOa hx
  refine ih (P ++ [(a,wakeF N V P a)]) (fun x m=>hn x (List.mem_cons_of_mem _ m)) (by simpa using hg) (fun t ht=>?_) (inv_next hA hOa hI) (h1 P a hOa hI (hn a (by simp)) hp)
  exact hOn.mono (ht (a,wakeF N V P a) (by simp))
section
variable {N:List LnF} {V:Int→Nat→List Int} {P:PastF} {a:OpF} (hO:PastOk N P a.a) (hI:RunInv N P)
include hO hI
end
theorem run_app (N:List LnF) (V:Int→Nat→List Int):∀ (s t:List OpF) (P:PastF),runG N V P (s ++ t)=runG N V (runG N V P s) t:=by
 intro s
 induction s with
 | nil=>intro t P;rfl
 | cons a s ih=>intro t P;exact ih t _
theorem run_ext (N:List LnF) (V:Int→Nat→List Int):∀ (t:List OpF) (P:PastF),∃ S,runG N V P t=P ++ S∧S.map Prod.fst=t∧∀ x∈S,x.2.a=x.1.a:=by
 intro t
 induction t with
 | nil=>intro P;exact ⟨[],by simp [runG],rfl,fun x hx=>by simp at hx⟩
 | cons a t ih=>
  intro P
  obtain ⟨S,h1,h2,h3⟩:=ih (P ++ [(a,wakeF N V P a)])
  refine ⟨(a,wakeF N V P a) :: S,?_,by simp [h2],fun x hx=>?_⟩
  ·show runG N V (P ++ [(a,wakeF N V P a)]) t=_
   rw [h1];simp
  ·rcases List.mem_cons.1 hx with rfl | hx
   ·rfl
   ·exact h3 x hx
structure Bound (N:List LnF) (sc:List OpF) (Q:Int→Prop) (dep:Int→Nat) (Tm Dm h:Int):Prop where
 ok:ActsOk sc
 dly:∀ a∈sc,a.b≤Dm∧a.c≤Dm
 d0:0≤Dm
 t1:1≤Tm
 ends:∀ l,l<N.length→Q (lnAt N l).src∧Q (lnAt N l).dst
 first:∀ q,Q q→Tm≤h→∃ a∈sc,a.k=q∧a.a≤Tm
 act:∀ q,Q q→∀ x,0≤x→x+Tm≤h→∃ a∈sc,a.k=q∧x<a.a∧a.a≤x+Tm
 dep:∀ l,l<N.length→lateN N l=0→dep (lnAt N l).src<dep (lnAt N l).dst
section
variable {N:List LnF} (hA:Apart N) (V:Int→Nat→List Int) {sc:List OpF} {Q:Int→Prop} {dep:Int→Nat} {Tm Dm h:Int} (hB:Bound N sc Q dep Tm Dm h)
include hA hB
end
end Go.Proofs.YtmndgoapkmhglabGreat
namespace Go.Proofs.YtmndgoapkmhglabGreat
open Go.RowKit
def actF (sc:List OpF) (i:Nat):OpF:=(sc[i]?).getD ⟨0,0,0,0⟩
theorem actF_get {sc:List OpF}{i:Nat} (h:i<sc.length):sc[i]=actF sc i:=by simp [actF,h]
def laterG (sc:List OpF) (i:Nat):Nat→Nat→Int
 | 0,_=>-1
 | f+1,k=>if (actF sc k).k=(actF sc i).k then (k:Int) else laterG sc i f (k+1)
def laterF (sc:List OpF) (i:Nat):Int:=laterG sc i (sc.length - (i+1)) (i+1)
theorem later_step {sc:List OpF}{i k:Nat} (h:k<sc.length):laterG sc i (sc.length - k) k=if (actF sc k).k=(actF sc i).k then (k:Int) else laterG sc i (sc.length - (k+1)) (k+1):=by
 rw [show sc.length - k=(sc.length - (k+1))+1 by omega]
 rfl
theorem all_step {m:Nat}{p:Nat→Bool} (h:(List.range m).all p=true) (hp:p m=true):(List.range (m+1)).all p=true:=by
 rw [List.range_succ,List.all_append,h,List.all_cons,hp];rfl
theorem all_fail {m n:Nat}{p:Nat→Bool} (hm:m<n) (hp:p m=false):(List.range n).all p=false:=by
 rw [List.all_eq_false]
 exact ⟨m,List.mem_range.2 hm,by rw [hp];simp⟩
theorem later_range (sc:List OpF) (i:Nat):∀ (f k:Nat),i<k→k+f=sc.length→laterG sc i f k = -1∨∃ j:Nat,laterG sc i f k=(j:Int)∧i<j∧j<sc.length:=by
 intro f
 induction f with
 | zero=>intro k _ _;exact .inl rfl
 | succ f ih=>
  intro k hk hl
  unfold laterG
  split
  ·exact .inr ⟨k,rfl,hk,by omega⟩
  ·exact ih (k+1) (by omega) (by omega)
def atG (ts:List Tk) (L:List Dl) (pl:Int) (m:Nat):List Nat:=(List.range m).filter fun i=>(((eqL L)[i]?).map fun x=>((placeD ts x:Nat):Int) == pl) == some true
def atR (ts:List Tk) (L:List Dl) (pl:Int):List Nat:=atG ts L pl (eqL L).length
theorem atG_len (ts:List Tk) (L:List Dl) (pl:Int) (m:Nat):(atG ts L pl m).length≤m:=by
 have:=List.length_filter_le (fun i=>(((eqL L)[i]?).map fun x=>((placeD ts x:Nat):Int) == pl) == some true) (List.range m)
 rwa [List.length_range] at this
theorem atG_hit {ts:List Tk}{L:List Dl}{pl:Int}{m:Nat} (hm:m<(eqL L).length) (h:((placeD ts ((eqL L)[m]):Nat):Int)=pl):atG ts L pl (m+1)=atG ts L pl m ++ [m]:=by
 unfold atG
 rw [List.range_succ,List.filter_append]
 congr 1
 simp [hm,h]
theorem atG_miss {ts:List Tk}{L:List Dl}{pl:Int}{m:Nat} (hm:m<(eqL L).length) (h:((placeD ts ((eqL L)[m]):Nat):Int)≠pl):atG ts L pl (m+1)=atG ts L pl m:=by
 unfold atG
 rw [List.range_succ,List.filter_append]
 simp [hm,h]
def backA (sc:List OpF):Nat→Bool
 | 0=>false
 | i+1=>decide ((actF sc (i+1)).a<(actF sc i).a)
def overA (sc:List OpF) (i:Nat):Bool:=
 decide (0≤laterF sc i) && (decide (IntKind.i64.wrap ((actF sc (laterF sc i).toNat).a - (actF sc i).a)≤(actF sc i).b) || decide (IntKind.i64.wrap ((actF sc (laterF sc i).toNat).a - (actF sc i).a)≤(actF sc i).c))
def badA (ts:List Tk) (L:List Dl) (sc:List OpF) (i:Nat):Bool:=
 (atR ts L (actF sc i).k).isEmpty || decide ((actF sc i).a<0) || decide (1099511627776<(actF sc i).a) || backA sc i || decide ((actF sc i).b<0) || decide (1099511627776<(actF sc i).b) || decide ((actF sc i).c<0) || decide (1099511627776<(actF sc i).c) || overA sc i
def playF (ts:List Tk) (L:List Dl) (sc:List OpF):Bool:=decide (sc.length≤400) && (List.range sc.length).all fun i=>!badA ts L sc i
theorem later_hit (sc:List OpF) (i:Nat):∀ (f k j:Nat),k≤j→j<k+f→(actF sc j).k=(actF sc i).k→∃ m:Nat,laterG sc i f k=(m:Int)∧k≤m∧m≤j∧(actF sc m).k=(actF sc i).k:=by
 intro f
 induction f with
 | zero=>intro k j h1 h2;omega
 | succ f ih=>
  intro k j h1 h2 hj
  unfold laterG
  by_cases hk:(actF sc k).k=(actF sc i).k
  ·rw [if_pos hk];exact ⟨k,rfl,Nat.le_refl _,h1,hk⟩
  ·rw [if_neg hk]
   rcases Nat.eq_or_lt_of_le h1 with rfl | h'
   ·exact absurd hj hk
   ·obtain ⟨m,e,g1,g2,g3⟩:=ih (k+1) j h' (by omega) hj
    exact ⟨m,e,by omega,g2,g3⟩
structure ActOk (ts:List Tk) (L:List Dl) (sc:List OpF) (i:Nat):Prop where
 here:(atR ts L (actF sc i).k)≠[]
 a0:0≤(actF sc i).a∧(actF sc i).a≤1099511627776
 b0:0≤(actF sc i).b∧(actF sc i).b≤1099511627776
 c0:0≤(actF sc i).c∧(actF sc i).c≤1099511627776
 back:∀ j,i=j+1→(actF sc j).a≤(actF sc i).a
 over:overA sc i=false
theorem badA_iff (ts:List Tk) (L:List Dl) (sc:List OpF) (i:Nat):badA ts L sc i=false↔ActOk ts L sc i:=by
 unfold badA
 simp only [Bool.or_eq_false_iff,decide_eq_false_iff_not,List.isEmpty_eq_false_iff]
 constructor
 ·rintro ⟨⟨⟨⟨⟨⟨⟨⟨h1,h2⟩,h3⟩,h4⟩,h5⟩,h6⟩,h7⟩,h8⟩,h9⟩
  refine ⟨h1,⟨by omega,by omega⟩,⟨by omega,by omega⟩,⟨by omega,by omega⟩,fun j e=>?_,h9⟩
  subst e
  unfold backA at h4
  rw [decide_eq_false_iff_not] at h4
  omega
 ·rintro ⟨h1,⟨h2,h3⟩,⟨h4,h5⟩,⟨h6,h7⟩,h8,h9⟩
  refine ⟨⟨⟨⟨⟨⟨⟨⟨h1,by omega⟩,by omega⟩,?_⟩,by omega⟩,by omega⟩,by omega⟩,by omega⟩,h9⟩
  cases i with
  | zero=>rfl
  | succ i=>unfold backA;rw [decide_eq_false_iff_not];have:=h8 i rfl;omega
theorem play_iff (ts:List Tk) (L:List Dl) (sc:List OpF):playF ts L sc=true↔sc.length≤400∧∀ i,i<sc.length→ActOk ts L sc i:=by
 unfold playF
 rw [Bool.and_eq_true,decide_eq_true_iff,List.all_eq_true]
 refine and_congr Iff.rfl ⟨fun h i hi=>?_,fun h i hi=>?_⟩
 ·have:=h i (List.mem_range.2 hi)
  rw [Bool.not_eq_true',badA_iff] at this
  exact this
 ·rw [Bool.not_eq_true',badA_iff]
  exact h i (List.mem_range.1 hi)
section
variable {ts:List Tk} {L:List Dl} {sc:List OpF} (h:∀ i,i<sc.length→ActOk ts L sc i)
include h
theorem play_mono:∀ (i j:Nat),i≤j→j<sc.length→(actF sc i).a≤(actF sc j).a:=by
 intro i j hij
 induction j with
 | zero=>intro _;rw [show i=0 by omega];exact Int.le_refl _
 | succ j ih=>
  intro hj
  rcases Nat.eq_or_lt_of_le hij with rfl | h'
  ·exact Int.le_refl _
  ·have h1:=ih (by omega) (by omega)
   have h2:=(h (j+1) hj).back j rfl
   omega
theorem play_gap (i j:Nat) (hij:i<j) (hj:j<sc.length) (hk:(actF sc j).k=(actF sc i).k):(actF sc i).a+(actF sc i).b<(actF sc j).a∧(actF sc i).a+(actF sc i).c<(actF sc j).a:=by
 obtain ⟨m,e,g1,g2,g3⟩:=later_hit sc i (sc.length - (i+1)) (i+1) j (by omega) (by omega) hk
 have e':laterF sc i=(m:Int):=e
 have ho:=(h i (by omega)).over
 have hm:=(h m (by omega)).a0
 have hi:=(h i (by omega)).a0
 have hmj:=play_mono h m j g2 hj
 unfold overA at ho
 rw [e'] at ho
 have hw:IntKind.i64.wrap ((actF sc m).a - (actF sc i).a)=(actF sc m).a - (actF sc i).a:=by rw [IntKind.wrap_i64];omega
 have hd:decide (0≤(m:Int))=true:=by simp
 rw [hd,Bool.true_and,Int.toNat_natCast,hw,Bool.or_eq_false_iff,decide_eq_false_iff_not,decide_eq_false_iff_not] at ho
 omega
theorem play_acts:ActsOk sc:=by
 refine ⟨fun x hx=>?_,?_⟩
 ·obtain ⟨i,hi,rfl⟩:=List.getElem_of_mem hx
  rw [actF_get hi]
  exact (h i hi).a0.1
 ·rw [List.pairwise_iff_getElem]
  intro i j hi hj hij
  rw [actF_get hi,actF_get hj]
  exact ⟨play_mono h i j (by omega) hj,fun hk=>play_gap h i j hij hj hk.symm⟩
end
structure WrF where
 src:Int
 dst:Int
 full:Bool
 unt:Bool
 comes:Int
 known:Int
def WrF.cell (x:WrF):Nat→Value
 | 0=>.int .i64 x.src
 | 1=>.int .i64 x.dst
 | 2=>.bool x.full
 | 3=>.bool x.unt
 | 4=>.int .i64 x.comes
 | _=>.int .i64 x.known
def Wires (w:World) (g n:Nat) (F:Nat→WrF):Prop:=∃ m f,w.rowIs g 92 m f∧∀ l,l<n→∀ j,j<6→l * 6+j<m∧f (l * 6+j)=(F l).cell j
theorem Wires.lt {w:World}{g n:Nat}{F:Nat→WrF} (h:Wires w g n F):g<w.heap.size:=by obtain ⟨m,f,h1,_⟩:=h;exact h1.lt
theorem Wires.froz {w:World}{g n:Nat}{F:Nat→WrF} (h:Wires w g n F) (i:Nat):w.frozen? ⟨g,i,none⟩=false:=by obtain ⟨m,f,h1,_⟩:=h;exact h1.frozen i
theorem Wires.cell {w:World}{g n:Nat}{F:Nat→WrF} (h:Wires w g n F) {l:Nat} (hl:l<n) {j:Nat} (hj:j<6):w.cell? ⟨g,l * 6+j,none⟩=some ((F l).cell j):=by
 obtain ⟨m,f,h1,h2⟩:=h
 obtain ⟨h3,h4⟩:=h2 l hl j hj
 rw [h1.cell h3,h4]
theorem Wires.cells {w:World}{g n:Nat}{F:Nat→WrF} (h:Wires w g n F) {l:Nat} (hl:l<n):w.cell? ⟨g,l * 6,none⟩=some (.int .i64 (F l).src)∧w.cell? ⟨g,l * 6+1,none⟩=some (.int .i64 (F l).dst)∧w.cell? ⟨g,l * 6+2,none⟩=some (.bool (F l).full)∧w.cell? ⟨g,l * 6+3,none⟩=some (.bool (F l).unt)∧w.cell? ⟨g,l * 6+4,none⟩=some (.int .i64 (F l).comes)∧w.cell? ⟨g,l * 6+5,none⟩=some (.int .i64 (F l).known):=
 ⟨h.cell hl (j:=0) (by omega),h.cell hl (j:=1) (by omega),h.cell hl (j:=2) (by omega),h.cell hl (j:=3) (by omega),h.cell hl (j:=4) (by omega),h.cell hl (j:=5) (by omega)⟩
theorem Wires.of_block {w w':World}{g n:Nat}{F:Nat→WrF} (h:Wires w g n F) (e:w'.heap[g]? = w.heap[g]?):Wires w' g n F:=by
 obtain ⟨m,f,h1,h2⟩:=h
 exact ⟨m,f,h1.of_block e,h2⟩
theorem Wires.set {w:World}{g n:Nat}{F F':Nat→WrF} (h:Wires w g n F) {l j:Nat} (hj:j<6) (v:Value) (hF:∀ l',l'<n→∀ j',j'<6→(F' l').cell j'=if l'=l∧j'=j then v else (F l').cell j'):Wires (w.setCell ⟨g,l * 6+j,none⟩ v) g n F':=by
 obtain ⟨m,f,h1,h2⟩:=h
 refine ⟨m,_,h1.set (l * 6+j) v,fun l' hl' j' hj'=>⟨(h2 l' hl' j' hj').1,?_⟩⟩
 rw [hF l' hl' j' hj']
 show (if l' * 6+j'=l * 6+j then v else f (l' * 6+j'))=_
 by_cases e:l'=l∧j'=j
 ·rw [if_pos e,if_pos (by obtain ⟨rfl,rfl⟩:=e;rfl)]
 ·rw [if_neg e,if_neg (by omega),(h2 l' hl' j' hj').2]
theorem Wires.congr {w:World}{g n:Nat}{F F':Nat→WrF} (h:Wires w g n F) (e:∀ l,l<n→F l=F' l):Wires w g n F':=by
 obtain ⟨m,f,h1,h2⟩:=h
 exact ⟨m,f,h1,fun l hl j hj=>by rw [← e l hl];exact h2 l hl j hj⟩
def scF (vE vV vW:Value) (nx:Nat→Nat) (hd:Nat→Bool):Nat→Value
 | 0=>vE
 | 1=>vV
 | 2=>vW
 | i+3=>if i % 2=0 then .int .i64 ((nx (i / 2):Nat):Int) else .bool (hd (i / 2))
structure Scn (w:World) (X:Nat→Prop) (b:Nat) (aW:Option Addr) (n cW:Nat) (vE vV:Value) (F:Nat→WrF) (nx:Nat→Nat) (hd:Nat→Bool):Prop where
 row:w.rowIs b 84 11 (scF vE vV (.slice aW n cW) nx hd)
 wi:0<n→∃ g,aW=some ⟨g,0,none⟩∧Wires w g n F∧b≠g
 xb:¬ X b
 xg:∀ g,aW=some ⟨g,0,none⟩→¬ X g
 xl:∀ k,X k→k<w.heap.size
 few:n≤6100
 az:n=0→aW=none
def scX (X:Nat→Prop) (b:Nat) (aW:Option Addr) (k:Nat):Prop:=X k∨k=b∨aW=some ⟨k,0,none⟩
section
variable {w w':World} {X:Nat→Prop} {b:Nat} {aW:Option Addr} {n cW:Nat} {vE vV:Value} {F:Nat→WrF} {nx:Nat→Nat} {hd:Nat→Bool}
theorem Scn.lt (h:Scn w X b aW n cW vE vV F nx hd):b<w.heap.size:=h.row.lt
theorem Scn.c0 (h:Scn w X b aW n cW vE vV F nx hd):w.cell? ⟨b,0,none⟩=some vE:=h.row.cell (i:=0) (by omega)
theorem Scn.c1 (h:Scn w X b aW n cW vE vV F nx hd):w.cell? ⟨b,1,none⟩=some vV:=h.row.cell (i:=1) (by omega)
theorem Scn.c2 (h:Scn w X b aW n cW vE vV F nx hd):w.cell? ⟨b,2,none⟩=some (.slice aW n cW):=h.row.cell (i:=2) (by omega)
theorem Scn.cn (h:Scn w X b aW n cW vE vV F nx hd) {p:Nat} (hp:p<4):w.cell? ⟨b,3+p * 2,none⟩=some (.int .i64 ((nx p:Nat):Int)):=by
 rw [h.row.cell (i:=3+p * 2) (by omega),Nat.add_comm]
 show some (if p * 2 % 2=0 then _ else _)=_
 rw [if_pos (by omega),Nat.mul_div_cancel _ (by omega)]
theorem Scn.ch (h:Scn w X b aW n cW vE vV F nx hd) {p:Nat} (hp:p<4):w.cell? ⟨b,3+p * 2+1,none⟩=some (.bool (hd p)):=by
 rw [h.row.cell (i:=3+p * 2+1) (by omega),show 3+p * 2+1=(p * 2+1)+3 by omega]
 show some (if (p * 2+1) % 2=0 then _ else _)=_
 rw [if_neg (by omega),show (p * 2+1) / 2=p by omega]
theorem Scn.froz (h:Scn w X b aW n cW vE vV F nx hd) (i:Nat):w.frozen? ⟨b,i,none⟩=false:=h.row.frozen i
theorem Scn.fr (h:Scn w X b aW n cW vE vV F nx hd) (hf:Fr (scX X b aW) w w'):Scn w' X b aW n cW vE vV F nx hd:=
 ⟨h.row.of_block (hf.block b (.inr (.inl rfl))),fun hp=>by
  obtain ⟨g,e,h1,h2⟩:=h.wi hp
  exact ⟨g,e,h1.of_block (hf.block g (.inr (.inr e))),h2⟩,h.xb,h.xg,fun k hk=>Nat.lt_of_lt_of_le (h.xl k hk) hf.size,h.few,h.az⟩
theorem Scn.sl (h:Scn w X b aW n cW vE vV F nx hd):∀ k,scX X b aW k→k<w.heap.size:=by
 rintro k (hk | rfl | hk)
 ·exact h.xl k hk
 ·exact h.lt
 ·rcases Nat.eq_zero_or_pos n with hn | hp
  rotate_left
  ·obtain ⟨g,e,h1,_⟩:=h.wi hp
   rw [e] at hk
   cases hk
   exact h1.lt
  ·rw [h.az hn] at hk;cases hk
theorem Scn.grown (h:Scn w X b aW n cW vE vV F nx hd) {ob:Option Nat} (hg:w.grownBy w' ob) (hk:∀ k,ob=some k→¬ scX X b aW k):Scn w' X b aW n cW vE vV F nx hd∧Fr X w w':=by
 have hf:Fr (scX X b aW) w w':=⟨hg.os,hg.tape,hg.output,hg.size,fun k hx=>hg.block k (h.sl k hx) (fun e=>hk k e.symm hx)⟩
 exact ⟨h.fr hf,hf.mono fun k hx=>.inl hx⟩
theorem Scn.below (h:Scn w X b aW n cW vE vV F nx hd) (hb:Below w.heap.size w w'):Scn w' X b aW n cW vE vV F nx hd:=
 ⟨h.row.of_block (hb.block b h.lt),fun hp=>by
  obtain ⟨g,e,h1,h2⟩:=h.wi hp
  exact ⟨g,e,h1.of_block (hb.block g h1.lt),h2⟩,h.xb,h.xg,fun k hk=>Nat.lt_of_lt_of_le (h.xl k hk) hb.size,h.few,h.az⟩
theorem Scn.more (h:Scn w X b aW n cW vE vV F nx hd) {Y:Nat→Prop} (h1:¬ Y b) (h2:∀ g,aW=some ⟨g,0,none⟩→¬ Y g) (h3:∀ k,Y k→k<w.heap.size):Scn w Y b aW n cW vE vV F nx hd:=⟨h.row,h.wi,h1,h2,h3,h.few,h.az⟩
theorem Scn.congr (h:Scn w X b aW n cW vE vV F nx hd) {F':Nat→WrF}{nx':Nat→Nat}{hd':Nat→Bool} (e:∀ l,l<n→F l=F' l) (e1:∀ p,p<4→nx p=nx' p) (e2:∀ p,p<4→hd p=hd' p):Scn w X b aW n cW vE vV F' nx' hd':=by
 refine ⟨h.row.congr fun i hi=>?_,fun hp=>?_,h.xb,h.xg,h.xl,h.few,h.az⟩
 ·match i,hi with
  | 0,_=>rfl
  | 1,_=>rfl
  | 2,_=>rfl
  | i+3,hi=>
   show (if i % 2=0 then _ else _)=(if i % 2=0 then _ else _)
   rw [e1 (i / 2) (by omega),e2 (i / 2) (by omega)]
 ·obtain ⟨g,e3,h1,h2⟩:=h.wi hp
  exact ⟨g,e3,h1.congr e,h2⟩
theorem Scn.setW (h:Scn w X b aW n cW vE vV F nx hd) {F':Nat→WrF}{g l j:Nat} (hg:aW=some ⟨g,0,none⟩) (hl:l<n) (hj:j<6) (v:Value) (hF:∀ l',l'<n→∀ j',j'<6→(F' l').cell j'=if l'=l∧j'=j then v else (F l').cell j') :
  Scn (w.setCell ⟨g,l * 6+j,none⟩ v) X b aW n cW vE vV F' nx hd:=by
 obtain ⟨g',e,h1,h2⟩:=h.wi (by omega)
 have eg:g'=g:=by rw [hg] at e;cases e;rfl
 subst eg
 exact ⟨h.row.setOther (a:=⟨g',l * 6+j,none⟩) h2 v,fun _=>⟨g',e,h1.set hj v hF,h2⟩,h.xb,h.xg,fun k hk=>by simpa using h.xl k hk,h.few,h.az⟩
theorem Scn.setN (h:Scn w X b aW n cW vE vV F nx hd) {p:Nat} (hp:p<4) (x:Nat):Scn (w.setCell ⟨b,3+p * 2,none⟩ (.int .i64 (x:Int))) X b aW n cW vE vV F (fun q=>if q=p then x else nx q) hd:=by
 refine ⟨(h.row.set (3+p * 2) _).congr fun i hi=>?_,fun hq=>?_,h.xb,h.xg,fun k hk=>by simpa using h.xl k hk,h.few,h.az⟩
 ·match i,hi with
  | 0,_=>rw [if_neg (by omega)];rfl
  | 1,_=>rw [if_neg (by omega)];rfl
  | 2,_=>rw [if_neg (by omega)];rfl
  | i+3,hi=>
   show _=if i % 2=0 then Value.int .i64 (((if i / 2=p then x else nx (i / 2)):Nat):Int) else _
   by_cases e:i+3=3+p * 2
   ·rw [if_pos e,if_pos (by omega),if_pos (by omega)]
   ·rw [if_neg e]
    show (if i % 2=0 then _ else _)=_
    by_cases e2:i % 2=0
    ·rw [if_pos e2,if_pos e2,if_neg (by omega)]
    ·rw [if_neg e2,if_neg e2]
 ·obtain ⟨g,e,h1,h2⟩:=h.wi hq
  exact ⟨g,e,h1.of_block (heap_setCell_other w ⟨b,_,none⟩ g _ (Ne.symm h2)),h2⟩
theorem Scn.setH (h:Scn w X b aW n cW vE vV F nx hd) {p:Nat} (hp:p<4) (x:Bool):Scn (w.setCell ⟨b,3+p * 2+1,none⟩ (.bool x)) X b aW n cW vE vV F nx (fun q=>if q=p then x else hd q):=by
 refine ⟨(h.row.set (3+p * 2+1) _).congr fun i hi=>?_,fun hq=>?_,h.xb,h.xg,fun k hk=>by simpa using h.xl k hk,h.few,h.az⟩
 ·match i,hi with
  | 0,_=>rw [if_neg (by omega)];rfl
  | 1,_=>rw [if_neg (by omega)];rfl
  | 2,_=>rw [if_neg (by omega)];rfl
  | i+3,hi=>
   show _=if i % 2=0 then _ else Value.bool (if i / 2=p then x else hd (i / 2))
   by_cases e:i+3=3+p * 2+1
   ·rw [if_pos e,if_neg (by omega),if_pos (by omega)]
   ·rw [if_neg e]
    show (if i % 2=0 then _ else _)=_
    by_cases e2:i % 2=0
    ·rw [if_pos e2,if_pos e2]
    ·rw [if_neg e2,if_neg e2,if_neg (by omega)]
 ·obtain ⟨g,e,h1,h2⟩:=h.wi hq
  exact ⟨g,e,h1.of_block (heap_setCell_other w ⟨b,_,none⟩ g _ (Ne.symm h2)),h2⟩
end
def ActAt (w:World) (A:Nat) (o:OpF):Prop:=w.rowIs A 49 4 (fun i=>if i=0 then .int .i64 o.k else if i=1 then .int .i64 o.a else if i=2 then .int .i64 o.b else .int .i64 o.c)
theorem ActAt.cells {w:World}{A:Nat}{o:OpF} (h:ActAt w A o):w.cell? ⟨A,0,none⟩=some (.int .i64 o.k)∧w.cell? ⟨A,1,none⟩=some (.int .i64 o.a)∧w.cell? ⟨A,2,none⟩=some (.int .i64 o.b)∧w.cell? ⟨A,3,none⟩=some (.int .i64 o.c):=
 ⟨h.cell (i:=0) (by omega),h.cell (i:=1) (by omega),h.cell (i:=2) (by omega),h.cell (i:=3) (by omega)⟩
theorem ActAt.boxed (w:World) (o:OpF):ActAt (w.alloc (.cells #[.int .i64 o.k,.int .i64 o.a,.int .i64 o.b,.int .i64 o.c] 49)) w.heap.size o:=
 World.rowIs_alloc w #[.int .i64 o.k,.int .i64 o.a,.int .i64 o.b,.int .i64 o.c] _ _ (fun i hi=>by
  have:i<4:=hi
  have:i=0∨i=1∨i=2∨i=3:=by omega
  rcases this with rfl | rfl | rfl | rfl <;> rfl)
def opCells (l:List OpF):List Value:=l.flatMap fun o=>[.int .i64 o.k,.int .i64 o.a,.int .i64 o.b,.int .i64 o.c]
end Go.Proofs.YtmndgoapkmhglabGreat
