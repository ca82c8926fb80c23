import Derived.ArgAppend
import Derived.Test.YtmndgoapkmhglabGreatM14JudJ
import Derived.Test.YtmndgoapkmhglabGreatM31LawP
import Derived.Test.YtmndgoapkmhglabGreatM32OpenT
namespace Go.Proofs.YtmndgoapkmhglabGreat
open Go.RowKit
def aheadG (sc:List OpF) (i:Nat):Nat→Option Nat
 | 0=>none
 | k+1=>if (actF sc k).k=(actF sc i).k then some k else aheadG sc i k
def aheadP (sc:List OpF) (i:Nat):Option Nat:=aheadG sc i i
theorem aheadG_some {sc:List OpF}{i:Nat}:∀ {k m:Nat},aheadG sc i k=some m→m<k∧(actF sc m).k=(actF sc i).k∧∀ t,m<t→t<k→(actF sc t).k≠(actF sc i).k:=by
 intro k
 induction k with
 | zero=>intro m h;cases h
 | succ k ih=>
  intro m h
  unfold aheadG at h
  split at h
  ·rename_i hk
   cases h
   exact ⟨Nat.lt_succ_self _,hk,fun t h1 h2=>by omega⟩
  ·rename_i hk
   obtain ⟨h1,h2,h3⟩:=ih h
   refine ⟨by omega,h2,fun t g1 g2=>?_⟩
   rcases Nat.lt_succ_iff_lt_or_eq.1 g2 with h' | rfl
   ·exact h3 t g1 h'
   ·exact hk
theorem aheadG_none {sc:List OpF}{i:Nat}:∀ {k:Nat},aheadG sc i k=none→∀ t,t<k→(actF sc t).k≠(actF sc i).k:=by
 intro k
 induction k with
 | zero=>intro _ t ht;omega
 | succ k ih=>
  intro h t ht
  unfold aheadG at h
  split at h
  ·cases h
  ·rename_i hk
   rcases Nat.lt_succ_iff_lt_or_eq.1 ht with h' | rfl
   ·exact ih h t h'
   ·exact hk
theorem laterG_is (sc:List OpF) (i:Nat):∀ (f k m:Nat),laterG sc i f k=(m:Int)→k≤m∧m<k+f∧(actF sc m).k=(actF sc i).k∧∀ t,k≤t→t<m→(actF sc t).k≠(actF sc i).k:=by
 intro f
 induction f with
 | zero=>intro k m h;unfold laterG at h;omega
 | succ f ih=>
  intro k m h
  unfold laterG at h
  split at h
  ·rename_i hk
   have:k=m:=by omega
   subst this
   exact ⟨Nat.le_refl _,by omega,hk,fun t h1 h2=>by omega⟩
  ·rename_i hk
   obtain ⟨h1,h2,h3,h4⟩:=ih (k+1) m h
   refine ⟨by omega,by omega,h3,fun t g1 g2=>?_⟩
   rcases Nat.eq_or_lt_of_le g1 with rfl | h'
   ·exact hk
   ·exact h4 t h' g2
theorem later_is {sc:List OpF}{i m:Nat} (hi:i<sc.length) (h:laterF sc i=(m:Int)):i<m∧m<sc.length∧(actF sc m).k=(actF sc i).k∧∀ t,i<t→t<m→(actF sc t).k≠(actF sc i).k:=by
 obtain ⟨h1,h2,h3,h4⟩:=laterG_is sc i _ _ m h
 exact ⟨by omega,by omega,h3,fun t g1 g2=>h4 t (by omega) g2⟩
theorem ahead_later {sc:List OpF}{i j:Nat} (hj:j<sc.length):(aheadP sc j=some i)↔i<j∧laterF sc i=(j:Int):=by
 constructor
 ·intro h
  obtain ⟨h1,h2,h3⟩:=aheadG_some h
  refine ⟨h1,?_⟩
  obtain ⟨m,e,g1,g2,g3⟩:=later_hit sc i (sc.length - (i+1)) (i+1) j (by omega) (by omega) h2.symm
  have hm:m=j:=by
   rcases Nat.eq_or_lt_of_le g2 with h' | h'
   ·exact h'
   ·exact absurd (g3.trans h2) (h3 m (by omega) h')
  subst hm
  exact e
 ·rintro ⟨hij,h⟩
  obtain ⟨_,_,h3,h4⟩:=later_is (by omega) h
  cases hc:aheadP sc j with
  | none=>exact absurd h3.symm (aheadG_none hc i hij)
  | some k=>
   obtain ⟨g1,g2,g3⟩:=aheadG_some hc
   rcases Nat.lt_trichotomy k i with h' | h' | h'
   ·exact absurd h3.symm (g3 i h' hij)
   ·rw [h']
   ·exact absurd (g2.trans h3) (h4 k h' g1)
def lastP (sc:List OpF):Nat→Int
 | 0=>0
 | i+1=>(actF sc i).a
def inB (x l m:Int):Bool:=decide (l≤x) && decide (x≤m)
def bothB (o:OpF) (l m:Int):Bool:=inB o.b l m && inB o.c l m
theorem inB_iff (x l m:Int):inB x l m=true↔l≤x∧x≤m:=by simp [inB]
theorem bothB_iff (o:OpF) (l m:Int):bothB o l m=true↔(l≤o.b∧o.b≤m)∧(l≤o.c∧o.c≤m):=by simp [bothB,inB]
def okA (ws:List Nat) (sc:List OpF) (i:Nat):Bool:=hereK ws (actF sc i).k && inB (actF sc i).a (lastP sc i) 1099511627776 && bothB (actF sc i) 0 1099511627776
def apartA (sc:List OpF) (i:Nat):Bool:=match aheadP sc i with
 | none=>true
 | some k=>bothB (actF sc k) 0 ((actF sc i).a - (actF sc k).a - 1)
def playP (ws:List Nat) (sc:List OpF):Bool:=decide (sc.length≤400) && (List.range sc.length).all (okA ws sc) && (List.range sc.length).all (apartA sc)
theorem all_iff {n:Nat}{p:Nat→Bool}:(List.range n).all p=true↔∀ i,i<n→p i=true:=by
 rw [List.all_eq_true]
 exact ⟨fun h i hi=>h i (List.mem_range.2 hi),fun h i hi=>h i (List.mem_range.1 hi)⟩
theorem ok_time {ws:List Nat}{sc:List OpF}{n:Nat} (h:∀ i,i<n→okA ws sc i=true):∀ i,i<n→0≤(actF sc i).a∧(actF sc i).a≤1099511627776:=by
 intro i
 induction i with
 | zero=>
  intro hi
  have:=h 0 hi
  unfold okA at this
  rw [Bool.and_eq_true,Bool.and_eq_true,inB_iff] at this
  exact this.1.2
 | succ i ih=>
  intro hi
  have:=h (i+1) hi
  unfold okA at this
  rw [Bool.and_eq_true,Bool.and_eq_true,inB_iff] at this
  have h1:(actF sc i).a≤(actF sc (i+1)).a:=this.1.2.1
  have h2:=ih (by omega)
  exact ⟨by omega,this.1.2.2⟩
theorem playP_eq (ws:List Nat) (sc:List OpF):playP ws sc=playK ws sc:=by
 rw [Bool.eq_iff_iff]
 unfold playP playK
 rw [Bool.and_eq_true,Bool.and_eq_true,Bool.and_eq_true,decide_eq_true_iff,and_assoc]
 refine and_congr Iff.rfl ?_
 rw [all_iff,all_iff,all_iff]
 constructor
 ·rintro ⟨h1,h2⟩ i hi
  have ht:=ok_time h1
  rw [Bool.not_eq_true',badK_iff]
  have h3:=h1 i hi
  unfold okA at h3
  rw [Bool.and_eq_true,Bool.and_eq_true,inB_iff,bothB_iff] at h3
  refine ⟨h3.1.1,ht i hi,h3.2.1,h3.2.2,(back_iff sc i).2 fun j e=>?_,fun h=>?_⟩
  ·subst e;exact h3.1.2.1
  ·unfold nextF at h ⊢
   split at h
   ·omega
   ·rename_i hn
    obtain ⟨m,e,g1,g2⟩:=later_nat sc hi (by omega)
    rw [if_neg hn,e,Int.toNat_natCast]
    have h4:=h2 m g2
    unfold apartA at h4
    rw [(ahead_later g2).2 ⟨g1,e⟩] at h4
    simp only [bothB_iff] at h4
    have t1:=ht i hi
    have t2:=ht m g2
    rw [show IntKind.i64.wrap ((actF sc m).a - (actF sc i).a)=(actF sc m).a - (actF sc i).a by rw [IntKind.wrap_i64];omega]
    omega
 ·intro h
  have hk:∀ i,i<sc.length→_:=fun i hi=>(badK_iff ws sc i).1 (by have:=h i hi;rwa [Bool.not_eq_true'] at this)
  refine ⟨fun i hi=>?_,fun i hi=>?_⟩
  ·obtain ⟨g1,g2,g3,g4,g5,g6⟩:=hk i hi
   unfold okA
   rw [Bool.and_eq_true,Bool.and_eq_true,inB_iff,bothB_iff]
   refine ⟨⟨g1,?_,g2.2⟩,g3,g4⟩
   cases i with
   | zero=>exact g2.1
   | succ i=>exact (back_iff sc (i+1)).1 g5 i rfl
  ·unfold apartA
   cases hc:aheadP sc i with
   | none=>rfl
   | some k=>
    obtain ⟨g1,e⟩:=(ahead_later hi).1 hc
    obtain ⟨_,a1,b1,c1,_,h6⟩:=hk k (by omega)
    have a2:=(hk i hi).2.1
    have hm:(actF sc k).a≤(actF sc i).a:=by
     have:∀ d,k+d<sc.length→(actF sc k).a≤(actF sc (k+d)).a:=by
      intro d
      induction d with
      | zero=>intro _;exact Int.le_refl _
      | succ d ih=>
       intro hd
       have h7:=ih (by omega)
       have h8:=(back_iff sc (k+d+1)).1 (hk (k+d+1) hd).2.2.2.2.1 (k+d) rfl
       exact Int.le_trans h7 h8
     have h9:=this (i - k) (by omega)
     rwa [show k+(i - k)=i by omega] at h9
    have hw:IntKind.i64.wrap ((actF sc i).a - (actF sc k).a)=(actF sc i).a - (actF sc k).a:=by rw [IntKind.wrap_i64];omega
    have hx:nextF sc k=(actF sc i).a - (actF sc k).a:=by
     unfold nextF
     rw [e,if_neg (by omega),Int.toNat_natCast,hw]
    rw [hx] at h6
    have h7:=h6 (by omega)
    simp only [bothB_iff]
    omega
end Go.Proofs.YtmndgoapkmhglabGreat
namespace Go.Proofs.YtmndgoapkmhglabGreat
open Go.RowKit
attribute [local go_sem ↓] Go.wp_at_zero Go.wp_at_succ
set_option maxHeartbeats 1000000 in
theorem pwithin_any (x l m:Int) (w:World) :
  Calls Tryz.prog 29 #[.int .i64 x,.int .i64 l,.int .i64 m] w fun e w'=>e = .returned (.bool (inB x l m))∧Below w.heap.size w w':=by
 by_cases h1:l≤x
 ·have h1':x ≥ l:=h1
  by_cases h2:x≤m
  ·go_enter Tryz.func29,Tryz.ntmps29
   go_wp2
   go_ret
   exact ⟨by simp [inB,h1,h2],Below.refl _ _⟩
  ·go_enter Tryz.func29,Tryz.ntmps29
   go_wp2
   go_ret
   exact ⟨by simp [inB,h1,h2],Below.refl _ _⟩
 ·have h1':¬ x ≥ l:=h1
  go_enter Tryz.func29,Tryz.ntmps29
  go_wp2
  go_ret
  exact ⟨by simp [inB];omega,Below.refl _ _⟩
set_option maxHeartbeats 1000000 in
theorem pboth_any (o:OpF) (l m:Int) (w:World) :
  Calls Tryz.prog 30 #[.agg #[.int .i64 o.k,.int .i64 o.a,.int .i64 o.b,.int .i64 o.c],.int .i64 l,.int .i64 m] w fun e w'=>e = .returned (.bool (bothB o l m))∧Below w.heap.size w w':=by
 obtain ⟨b0,hb0⟩:∃ b0,b0=w.alloc (.cells #[.int .i64 o.k,.int .i64 o.a,.int .i64 o.b,.int .i64 o.c] 49):=⟨_,rfl⟩
 have HW0:Hid (Below w.heap.size w b0):=hide (by rw [hb0];exact (Below.refl _ _).alloc (Nat.le_refl _) _)
 have HC:Hid (∀ W:World,Below b0.heap.size b0 W→W.cell? ⟨w.heap.size,2,none⟩=some (.int .i64 o.b)∧W.cell? ⟨w.heap.size,3,none⟩=some (.int .i64 o.c)):=hide fun W hW=>by
  have hy:W.heap[w.heap.size]? = some (.cells #[.int .i64 o.k,.int .i64 o.a,.int .i64 o.b,.int .i64 o.c] 49 (0,0)):=by
   rw [hW.block _ (by rw [hb0];simp),hb0];exact heap_alloc_new _ _
  refine ⟨?_,?_⟩ <;> (rw [cell_of_row _ _ _ _ _ _ hy];rfl)
 have HB:Hid (bothB o l m=(inB o.b l m && inB o.c l m)):=hide rfl
 have HP1:=hide (pwithin_any o.b l m)
 have HP2:=hide (pwithin_any o.c l m)
 generalize inB o.b l m=p1 at *
 generalize inB o.c l m=p2 at *
 go_enter Tryz.func30,Tryz.ntmps30
 go_wp2_with fail
 rw [← hb0]
 clear hb0
 refine (HP1.out b0).mono ?_
 rintro e w1 ⟨rfl,hb1⟩
 obtain ⟨c2,c3⟩:=HC.out w1 hb1
 have HB1:Hid (Below w.heap.size w w1):=hide (HW0.out.trans (hb1.mono HW0.out.size))
 clear hb1
 cases p1 with
 | false=>
  go_wp2
  go_ret
  exact ⟨by rw [HB.out];rfl,HB1.out⟩
 | true=>
  go_wp2_with fail
  refine (HP2.out w1).mono ?_
  rintro e w2 ⟨rfl,hb2⟩
  have HB2:Hid (Below w.heap.size w w2):=hide (HB1.out.trans (hb2.mono HB1.out.size))
  clear hb2 c2 c3
  go_wp2
  go_ret
  exact ⟨by rw [HB.out];rfl,HB2.out⟩
set_option maxHeartbeats 1000000 in
set_option maxRecDepth 100000 in
theorem ppeopled_any (w:World) (ve:Value) (es:List Dc) (B:Nat) (he:w.ownsRow B 90 7 ve es.length (dcCells es)) (hl:es.length≤1501) (q:Int) :
  Calls Tryz.prog 28 #[ve,.int .i64 q] w fun e w'=>e = .returned (.bool (hereK (es.map Dc.place) q))∧Below w.heap.size w w':=by
 obtain ⟨av,cap,rfl,hsh⟩:=own_shape he
 have HO:=hide (own_zero he)
 have HSH:=hide hsh
 clear he hsh
 go_enter Tryz.func28,Tryz.ntmps28
 go_wp2
 go_loopw [9] (fun i wr=>∃ k:Nat,k≤es.length∧i = .int .i64 k∧Below w.heap.size w wr∧hereK ((es.drop k).map Dc.place) q=hereK (es.map Dc.place) q) (fun i _=>es.length - (intOf i).toNat)
 case atStart=>exact ⟨0,Nat.zero_le _,rfl,Below.refl _ _,rfl⟩
 case round=>
  obtain ⟨k,hk,rfl,hbel,hrec⟩:=hrel
  by_cases hlt:k<es.length
  ·obtain ⟨g,rfl,_,hg2⟩:=HSH.out (by omega)
   obtain ⟨a,ha⟩:∃ a,a=es[k]'hlt:=⟨_,rfl⟩
   rw [drop_at es k hlt,← ha] at hrec
   obtain ⟨x0,x1,x2,x3,x4,x5,x6⟩:=dc_later HO.out hbel hg2 hlt a ha
   have j1:(0:Int)≤(k:Int):=by omega
   have j2:(k:Int)<(es.length:Int):=by omega
   have HR:Hid (hereK (es.map Dc.place) q=(((a.place:Int) == q) || hereK ((es.drop (k+1)).map Dc.place) q)):=hide (by rw [← hrec];rfl)
   clear ha hrec
   obtain ⟨pq,hpq⟩:∃ pq,(((a.place:Nat):Int) == q)=pq:=⟨_,rfl⟩
   rw [hpq] at HR
   cases pq with
   | true=>
    go_wp2
    go_ret
    exact ⟨by rw [HR.out];rfl,hbel.alloc hbel.size _⟩
   | false=>
    go_wp2
    go_roundw
    case rel=>exact ⟨k+1,by omega,by go_num,hbel.alloc hbel.size _,by rw [HR.out];rfl⟩
    case measure=>simp [intOf];omega
  ·have HR:Hid (hereK (es.map Dc.place) q=false):=hide (by rw [← hrec,List.drop_of_length_le (by omega)];rfl)
   clear hrec
   go_wp2
   go_ret
   exact ⟨by rw [HR.out];rfl,hbel⟩
abbrev OpF.av (o:OpF):Value:=.agg #[.int .i64 o.k,.int .i64 o.a,.int .i64 o.b,.int .i64 o.c]
def aheadV (sc:List OpF) (i:Nat):Value:=.tuple #[((aheadP sc i).map fun k=>(actF sc k).av).getD (.agg #[.int .i64 0,.int .i64 0,.int .i64 0,.int .i64 0]),.bool (aheadP sc i).isSome]
set_option maxHeartbeats 1000000 in
set_option maxRecDepth 100000 in
theorem pahead_any (w:World) (v:Value) (sc:List OpF) (h:OpsAt w v sc) (i:Nat) (hi:i<sc.length) :
  Calls Tryz.prog 60 #[v,.int .i64 i] w fun e w'=>e = .returned (aheadV sc i)∧Below w.heap.size w w':=by
 obtain ⟨A,C,rfl,hm,hc⟩:=h
 obtain ⟨b,o,rfl,hb,hr⟩:=hc (by omega)
 have HR:=hide hr
 have hw:IntKind.i64.wrap ((i:Int) - 1)=(i:Int) - 1:=by rw [IntKind.wrap_i64];omega
 have HAV:Hid (aheadV sc i = .tuple #[((aheadG sc i i).map fun k=>(actF sc k).av).getD (.agg #[.int .i64 0,.int .i64 0,.int .i64 0,.int .i64 0]),.bool (aheadG sc i i).isSome]):=hide rfl
 clear hc hr
 go_enter Tryz.func60,Tryz.ntmps60
 go_wp2
 go_loopw [6] (fun vk wr=>∃ k:Nat,k≤i∧vk = .int .i64 ((k:Int) - 1)∧Below w.heap.size w wr∧w.heap.size<wr.heap.size∧wr.heap[w.heap.size]? = some (.cells #[.int .i64 0,.int .i64 0,.int .i64 0,.int .i64 0] 49 (0,0))∧aheadG sc i k=aheadG sc i i) (fun vk _=>(intOf vk+1).toNat)
 case atStart=>exact ⟨i,Nat.le_refl _,by first | rfl | rw [hw],(Below.refl _ _).alloc (Nat.le_refl _) _,by simp,heap_alloc_new _ _,rfl⟩
 case round=>
  obtain ⟨k,hk,rfl,hbr,hNl,hNc,hl⟩:=hrel
  have HL:=hide hl
  have HBR:=hide hbr
  have HNC:=hide hNc
  have z0:=(cell_of_row wr w.heap.size 0 _ _ _ hNc)
  have z1:=(cell_of_row wr w.heap.size 1 _ _ _ hNc)
  have z2:=(cell_of_row wr w.heap.size 2 _ _ _ hNc)
  have z3:=(cell_of_row wr w.heap.size 3 _ _ _ hNc)
  simp at z0 z1 z2 z3
  have f0:=(frozen_of_row wr w.heap.size 0 _ _ hNc)
  have f1:=(frozen_of_row wr w.heap.size 1 _ _ hNc)
  have f2:=(frozen_of_row wr w.heap.size 2 _ _ hNc)
  have f3:=(frozen_of_row wr w.heap.size 3 _ _ hNc)
  clear hl hNc
  cases k with
  | succ k=>
   have hkl:k<sc.length:=by omega
   have e1:((k+1:Nat):Int) - 1=(k:Int):=by omega
   rw [e1]
   have X:=HR.out k hkl
   rw [actF_get hkl] at X
   have x0:=(hbr.cell (p:=⟨b,o+k * 4,none⟩) hb).trans X.1
   have x1:=(hbr.cell (p:=⟨b,o+k * 4+1,none⟩) hb).trans X.2.1
   have x2:=(hbr.cell (p:=⟨b,o+k * 4+2,none⟩) hb).trans X.2.2.1
   have x3:=(hbr.cell (p:=⟨b,o+k * 4+3,none⟩) hb).trans X.2.2.2
   have y0:=(hbr.cell (p:=⟨b,o+i * 4,none⟩) hb).trans (HR.out i hi).1
   rw [actF_get hi] at y0
   have j1:(0:Int)≤(i:Int):=by omega
   have j2:(i:Int)<(sc.length:Int):=by omega
   have j3:(0:Int)≤(k:Int):=by omega
   have j4:(k:Int)<(sc.length:Int):=by omega
   have j5:(k:Int) ≥ 0:=by omega
   have HG:Hid (aheadG sc i i=if (actF sc k).k=(actF sc i).k then some k else aheadG sc i k):=hide (by rw [← HL.out];rfl)
   have hkw:IntKind.i64.wrap ((k:Int) - 1)=(k:Int) - 1:=by rw [IntKind.wrap_i64];omega
   clear hbr X
   by_cases he:(actF sc k).k=(actF sc i).k
   ·have HF:Hid (aheadG sc i i=some k):=hide (by rw [HG.out,if_pos he])
    have q1:((actF sc k).k == (actF sc i).k)=true:=by rw [he];simp
    have HV:Hid (aheadV sc i = .tuple #[.agg #[.int .i64 (actF sc k).k,.int .i64 (actF sc k).a,.int .i64 (actF sc k).b,.int .i64 (actF sc k).c],.bool true]):=hide (by rw [HAV.out,HF.out];rfl)
    clear he HG
    generalize (actF sc k).k=u0 at *
    generalize (actF sc k).a=u1 at *
    generalize (actF sc k).b=u2 at *
    generalize (actF sc k).c=u3 at *
    generalize (actF sc i).k=v0 at *
    go_wp2_with fail
    go_quiet (fail)
    go_wp2
    (try simp only [Exit.inBlock,Exit.then])
    refine bodyPost_ret (v:=.tuple #[.agg #[.int .i64 u0,.int .i64 u1,.int .i64 u2,.int .i64 u3],.bool true]) (by simp [results,Tryz.results60,go_sem,z0,z1,z2,z3]) rfl ?_
    refine ⟨by rw [HV.out],?_⟩
    have hb0:Below w.heap.size w (wr.drewN nq):=below_drewN HBR.out _
    exact ((((hb0.setCell (Nat.le_refl _) _).setCell (Nat.le_refl _) _).setCell (Nat.le_refl _) _).setCell (Nat.le_refl _) _)
   ·have HF:Hid (aheadG sc i k=aheadG sc i i):=hide (by rw [HG.out,if_neg he])
    have q1:((actF sc k).k == (actF sc i).k)=false:=by rw [beq_eq_false_iff_ne];exact he
    clear he HG x1 x2 x3
    generalize (actF sc k).k=u0 at *
    generalize (actF sc i).k=v0 at *
    go_wp2_with fail
    go_quiet (fail)
    go_wp2
    go_roundw
    case rel=>exact ⟨k,by omega,by first | rfl | rw [hkw],by first | exact HBR.out | exact below_drewN HBR.out _,by first | exact hNl | (simp;exact hNl),by first | exact HNC.out | (simp;exact HNC.out),HF.out⟩
    case measure=>simp [intOf]
  | zero=>
   have e1:((0:Nat):Int) - 1 = -1:=rfl
   rw [e1]
   have HF:Hid (aheadG sc i i=none):=hide (by rw [← HL.out];rfl)
   go_wp2
   (try simp only [Exit.inBlock,Exit.then])
   refine bodyPost_ret (v:=.tuple #[.agg #[.int .i64 0,.int .i64 0,.int .i64 0,.int .i64 0],.bool false]) (by simp [results,Tryz.results60,go_sem,z0,z1,z2,z3]) rfl ?_
   refine ⟨by rw [HAV.out,HF.out];rfl,?_⟩
   exact ((((HBR.out.setCell (Nat.le_refl _) _).setCell (Nat.le_refl _) _).setCell (Nat.le_refl _) _).setCell (Nat.le_refl _) _)
set_option maxHeartbeats 1000000 in
theorem lsame_any (w:World) (va vb:Value) (xs ys:List Int) (ha:RowAt w va xs) (hb:RowAt w vb ys) :
  Calls Tryz.prog 9 #[va,vb] w fun e w'=>e = .returned (.bool (xs == ys))∧Below w.heap.size w w':=by
 obtain ⟨A,C,rfl,hm,hc⟩:=ha
 obtain ⟨A',C',rfl,hm',hc'⟩:=hb
 by_cases hl:xs.length=ys.length
 ·have q1:((xs.length:Int) != (ys.length:Int))=false:=by rw [hl];simp
  have HA:=hide hc
  have HB:=hide hc'
  have HL:=hide hl
  clear hc hc' hl
  go_enter Tryz.func9,Tryz.ntmps9
  go_wp2
  go_loopw [5] (fun vi wr=>∃ m:Nat,m≤xs.length∧vi = .int .i64 m∧Below w.heap.size w wr∧∀ j,j<m→(hx:j<xs.length)→(hy:j<ys.length)→xs[j]=ys[j]) (fun vi _=>xs.length - (intOf vi).toNat)
  case atStart=>exact ⟨0,Nat.zero_le _,rfl,Below.refl _ _,fun j hj=>by omega⟩
  case round=>
   obtain ⟨m,hm,rfl,hbx,hrec⟩:=hrel
   have HRC:=hide hrec
   clear hrec
   by_cases hml:m<xs.length
   ·obtain ⟨b,o,rfl,hb,hr⟩:=HA.out (by omega)
    obtain ⟨b',o',rfl,hb',hr'⟩:=HB.out (by have:=HL.out;omega)
    have hmy:m<ys.length:=by have:=HL.out;omega
    have x1:=(hbx.cell (p:=⟨b,o+m,none⟩) hb).trans (hr m hml)
    have x2:=(hbx.cell (p:=⟨b',o'+m,none⟩) hb').trans (hr' m hmy)
    have j3:(0:Int)≤(m:Int):=by omega
    have j4:(m:Int)<(xs.length:Int):=by omega
    have j5:(m:Int)<(ys.length:Int):=by omega
    by_cases he:xs[m]=ys[m]
    ·have HN:Hid (∀ j,j<m+1→(hx:j<xs.length)→(hy:j<ys.length)→xs[j]=ys[j]):=hide (fun j hj hx hy=>by
      by_cases e:j=m
      ·subst e;exact he
      ·exact HRC.out j (by omega) hx hy)
     have q2:(xs[m] != ys[m])=false:=by rw [he];simp
     generalize xs[m]=u at x1 q2
     generalize ys[m]=v at x2 q2
     clear hr hr' he
     go_wp2_with fail
     go_quiet (fail)
     go_wp2
     go_roundw
     case rel=>exact ⟨m+1,by omega,by go_num,by first | exact hbx | exact below_drewN hbx _,HN.out⟩
     case measure=>simp [intOf];omega
    ·have HN:=hide (row_ne hml hmy he)
     have q2:(xs[m] != ys[m])=true:=by rw [bne_iff_ne];exact he
     generalize xs[m]=u at x1 q2
     generalize ys[m]=v at x2 q2
     clear hr hr' he
     go_wp2_with fail
     go_quiet (fail)
     go_wp2
     go_ret
     exact ⟨by rw [HN.out];rfl,by first | exact hbx | exact below_drewN hbx _⟩
   ·have em:m=xs.length:=by omega
    subst em
    have HN:=hide (row_eq HL.out (fun j hx hy=>HRC.out j hx hx hy))
    have z1:¬ (xs.length:Int)<(xs.length:Int):=by omega
    clear HRC
    go_wp2
    go_ret
    exact ⟨by rw [HN.out];rfl,hbx⟩
 ·have q1:((xs.length:Int) != (ys.length:Int))=true:=by rw [bne_iff_ne];omega
  have HN:Hid ((xs == ys)=false):=hide (by rw [beq_eq_false_iff_ne];rintro rfl;exact hl rfl)
  clear hc hc' hl
  go_enter Tryz.func9,Tryz.ntmps9
  go_wp2
  go_ret
  exact ⟨by rw [HN.out];rfl,Below.refl _ _⟩
set_option maxHeartbeats 1000000 in
theorem lfull_any (w:World) (va:Value) (xs:List Int) (mk:Int) (ha:RowAt w va xs) :
  Calls Tryz.prog 23 #[va,.int .i64 mk] w fun e w'=>e = .returned (.bool (xs.all (· == mk)))∧Below w.heap.size w w':=by
 obtain ⟨A,C,rfl,hm,hc⟩:=ha
 have HA:=hide hc
 clear hc
 go_enter Tryz.func23,Tryz.ntmps23
 go_wp2
 go_loopw [5] (fun vi wr=>∃ m:Nat,m≤xs.length∧vi = .int .i64 m∧Below w.heap.size w wr∧∀ j,j<m→(hx:j<xs.length)→xs[j]=mk) (fun vi _=>xs.length - (intOf vi).toNat)
 case atStart=>exact ⟨0,Nat.zero_le _,rfl,Below.refl _ _,fun j hj=>by omega⟩
 case round=>
  obtain ⟨m,hm,rfl,hbx,hrec⟩:=hrel
  have HRC:=hide hrec
  clear hrec
  by_cases hml:m<xs.length
  ·obtain ⟨b,o,rfl,hb,hr⟩:=HA.out (by omega)
   have x1:=(hbx.cell (p:=⟨b,o+m,none⟩) hb).trans (hr m hml)
   have j3:(0:Int)≤(m:Int):=by omega
   have j4:(m:Int)<(xs.length:Int):=by omega
   by_cases he:xs[m]=mk
   ·have HN:Hid (∀ j,j<m+1→(hx:j<xs.length)→xs[j]=mk):=hide (fun j hj hx=>by
     by_cases e:j=m
     ·subst e;exact he
     ·exact HRC.out j (by omega) hx)
    have q2:(xs[m] != mk)=false:=by rw [he];simp
    generalize xs[m]=u at x1 q2
    clear hr he
    go_wp2
    go_roundw
    case rel=>exact ⟨m+1,by omega,by go_num,by first | exact hbx | exact below_drewN hbx _,HN.out⟩
    case measure=>simp [intOf];omega
   ·have HN:Hid (xs.all (· == mk)=false):=hide (by rw [List.all_eq_false];exact ⟨xs[m],List.getElem_mem hml,by simpa using he⟩)
    have q2:(xs[m] != mk)=true:=by rw [bne_iff_ne];exact he
    generalize xs[m]=u at x1 q2
    clear hr he
    go_wp2
    go_ret
    exact ⟨by rw [HN.out];rfl,by first | exact hbx | exact below_drewN hbx _⟩
  ·have em:m=xs.length:=by omega
   subst em
   have HN:Hid (xs.all (· == mk)=true):=hide (by
    rw [List.all_eq_true]
    intro x hx
    obtain ⟨j,hj,rfl⟩:=List.getElem_of_mem hx
    rw [HRC.out j hj hj];simp)
   have z1:¬ (xs.length:Int)<(xs.length:Int):=by omega
   clear HRC
   go_wp2
   go_ret
   exact ⟨by rw [HN.out];rfl,hbx⟩
end Go.Proofs.YtmndgoapkmhglabGreat
namespace Go.Proofs.YtmndgoapkmhglabGreat
open Go.RowKit
def AllM (w:World) (K:Nat→Prop) (v:Value) (n:Nat) (mk:Int):Prop:=
 ∃ (A:Option Addr) (C:Nat),v = .slice A n C∧n≤35184372088832∧(0<n→∃ b o,A=some ⟨b,o,none⟩∧K b∧b<w.heap.size∧∀ c,c<n→w.cell? ⟨b,o+c,none⟩=some (.int .i64 mk))
theorem AllM.row {w:World}{K:Nat→Prop}{v:Value}{n:Nat}{mk:Int} (h:AllM w K v n mk):RowAt w v (List.replicate n mk):=by
 obtain ⟨A,C,rfl,hm,hc⟩:=h
 refine ⟨A,C,by rw [List.length_replicate],by rw [List.length_replicate];exact hm,fun hp=>?_⟩
 rw [List.length_replicate] at hp
 obtain ⟨b,o,h1,_,h3,h4⟩:=hc hp
 exact ⟨b,o,h1,h3,fun c hc=>by rw [List.getElem_replicate];exact h4 c (by simpa using hc)⟩
theorem AllM.keep {w w':World}{K K':Nat→Prop}{v:Value}{n:Nat}{mk:Int} (h:AllM w K v n mk) (hs:w.heap.size≤w'.heap.size) (hk:∀ b,b<w.heap.size→K b→K' b)
  (hc:∀ b,b<w.heap.size→K b→∀ c,w.cell? ⟨b,c,none⟩=some (.int .i64 mk)→w'.cell? ⟨b,c,none⟩=some (.int .i64 mk)):AllM w' K' v n mk:=by
 obtain ⟨A,C,rfl,hm,h⟩:=h
 refine ⟨A,C,rfl,hm,fun hp=>?_⟩
 obtain ⟨b,o,h1,h2,h3,h4⟩:=h hp
 exact ⟨b,o,h1,hk b h3 h2,Nat.lt_of_lt_of_le h3 hs,fun c hcc=>hc b h3 h2 _ (h4 c hcc)⟩
theorem AllM.below {w w':World}{K:Nat→Prop}{v:Value}{n:Nat}{mk:Int} (h:AllM w K v n mk) (hb:Below w.heap.size w w'):AllM w' K v n mk:=
 h.keep hb.size (fun _ _ hk=>hk) (fun b hb' _ c hc=>(hb.cell (p:=⟨b,c,none⟩) hb').trans hc)
theorem grown_cell {w w':World}{row:Option Nat} (h:w.grownBy w' row) {b c:Nat} (hb:b<w.heap.size) (hr:row≠some b):w'.cell? ⟨b,c,none⟩=w.cell? ⟨b,c,none⟩:=
 World.cell?_of_block (w:=w) (a:=⟨b,c,none⟩) (h.block b hb (Ne.symm hr))
theorem own_allM {w:World}{base:Nat}{e:TypeId}{v:Value}{n:Nat}{mk:Int} (hn:n≤35184372088832) (h:w.ownsRow base e 1 v n (List.replicate n (.int .i64 mk))) (K:Nat→Prop) (hK:∀ b,v.ownBlock=some b→K b):AllM w K v n mk:=by
 rcases h.2 with ⟨rfl,rfl⟩ | ⟨g,cap,cur,rfl,hb,hg,h1,h2,h3,h4⟩
 ·exact ⟨none,0,rfl,hn,fun hp=>by omega⟩
 ·refine ⟨some ⟨g,0,none⟩,cap,rfl,hn,fun hp=>⟨g,0,rfl,hK g rfl,(Array.getElem?_eq_some_iff.1 hg).1,fun c hc=>?_⟩⟩
  rw [h.cellAt (0+c) (by omega),List.getElem?_replicate,if_pos (by omega)]
theorem setCells_block {b:Nat}:∀ (vs:List Value) (o:Nat) (w:World) (cs:Array Value) (t:TypeId),w.heap[b]? = some (.cells cs t (0,0))→
  ∃ cs',(w.setCells b o vs).heap[b]? = some (.cells cs' t (0,0))∧cs'.size=cs.size∧cs'.toList.take o=cs.toList.take o∧(w.setCells b o vs).heap.size=w.heap.size∧(∀ k,k≠b→(w.setCells b o vs).heap[k]? = w.heap[k]?)∧(w.setCells b o vs).os=w.os∧(w.setCells b o vs).tape=w.tape∧(w.setCells b o vs).output=w.output:=by
 intro vs
 induction vs with
 | nil=>intro o w cs t h;exact ⟨cs,h,rfl,rfl,rfl,fun _ _=>rfl,rfl,rfl,rfl⟩
 | cons v r ih=>
  intro o w cs t h
  obtain ⟨cs',h1,h2,h3,h4,h5,h6,h7,h8⟩:=ih (o+1) (w.setCell ⟨b,o,none⟩ v) (cs.setIfInBounds o v) t (heap_setCell_same w b o cs t v h)
  refine ⟨cs',h1,by simpa using h2,?_,by rw [World.setCells,h4];simp,fun k hk=>(h5 k hk).trans (heap_setCell_other w ⟨b,o,none⟩ k v hk),h6,h7,h8⟩
  have e:cs'.toList.take o=(cs'.toList.take (o+1)).take o:=by rw [List.take_take,Nat.min_eq_left (by omega)]
  rw [e,h3,List.take_take,Nat.min_eq_left (by omega),Array.toList_setIfInBounds,List.take_set_of_le (by omega)]
theorem append_marks {P:Program} (w:World) {ops:Array Oper}{rest:List Oper}{o:Oper}{a:Act}{Q:Exit→Act→World→Prop}
  (hg:o.guard=none) (s x:Operand) (t:TypeId) (hop:o.op=Op.call { callee:=Callee.builtin Builtin.append,args:=#[s,x],argTypes:=#[t,t] })
  (e:TypeId) (i:TypeInfo) (z:Value) (h1:P.underlying t=some (.slice e)) (h2:P.info? e=some i) (h3:i.zero=some z) (h4:i.size=1) (h5:i.bytes=8) (h6:z.cells.size=1)
  (base n m:Nat) (mk:Int) (v:Value) (hs:a.eval s=v) (hown:w.ownsRow base e 1 v n (List.replicate n (.int .i64 mk)))
  (ad:Addr) (c:Nat) (hx:a.eval x = .slice (some ad) m c) (hc:∀ j,j<m→w.cell? (ad.add j)=some (.int .i64 mk)) (hm:0<m) (hnm:n+m≤1000000)
  (h:∀ v' w',w'.ownsRow base e 1 v n (List.replicate n (.int .i64 mk))→w.grownBy w' v.ownBlock→(∀ b c,w.cell? ⟨b,c,none⟩=some (.int .i64 mk)→w'.cell? ⟨b,c,none⟩=some (.int .i64 mk))→
    AllM w' (fun b=>v.ownBlock=some b∨w.heap.size≤b) v' (n+m) mk→(∃ A C,v' = .slice A (n+m) C)→wpList P ops Q rest (a.put o.dst v') w') :
  wpList P ops Q (o :: rest) a w:=by
 have news:∀ j u,(List.replicate m (Value.int .i64 mk))[j]? = some u→w.cell? (ad.add j)=some u:=fun j u hj=>by
  rw [List.getElem?_replicate] at hj
  split at hj
  ·cases hj;exact hc j (by assumption)
  ·cases hj
 have one:∀ u∈List.replicate m (Value.int .i64 mk),u.oneCell'=true:=fun u hu=>by rw [(List.mem_replicate.1 hu).2];rfl
 have rep:List.replicate n (Value.int .i64 mk) ++ List.replicate m (.int .i64 mk)=List.replicate (n+m) (.int .i64 mk):=List.replicate_append_replicate
 have big:n+m≤maxLen:=by unfold maxLen;omega
 have grow:∀ v' w',w'.ownsRow w.heap.size e 1 v' (n+m) (List.replicate n (.int .i64 mk) ++ List.replicate m (.int .i64 mk))→w.grownBy w' none→wpList P ops Q rest (a.put o.dst v') w':=fun v' w' hown' hgr=>by
  rw [rep] at hown'
  obtain ⟨A,C,hv',_⟩:=own_shape hown'
  refine h v' w' (hown.kept hgr ?_) ⟨hgr.os,hgr.tape,hgr.output,hgr.size,fun k hk _=>hgr.block k hk (by simp)⟩ (fun b c hcell=>?_) (own_allM (by omega) hown' _ (fun b hb=>.inr (hown'.lt b hb).1)) ⟨A,C,hv'⟩
  ·cases v.ownBlock with
   | none=>exact .inl rfl
   | some k=>exact .inr (by simp)
  ·rw [grown_cell hgr (World.block_lt_of_cell? _ _ hcell) (by simp)];exact hcell
 rcases hown.2 with ⟨rfl,rfl⟩ | ⟨g,cap,cur,rfl,hb,hgc,hnc,hcm,hcs,htake⟩
 ·exact wpList_append_grows w hg s x t hop e i z 1 8 h1 h2 h3 h4 h5 h6 (by omega) none 0 0 [] hs (fun _=>⟨rfl,rfl⟩) rfl (fun b hb=>by cases hb) ad m c (List.replicate m (.int .i64 mk)) hx (by simp) news one (by omega) big (by omega) (fun v' w' ho hgr=>grow v' w' (by simpa using ho) hgr)
 ·refine wpList_append_arg w hg s x t hop e i z 1 8 h1 h2 h3 h4 h5 h6 (by omega) g 0 n cap (List.replicate n (.int .i64 mk)) hs (by simp) (fun j u hj=>?_) ad m c (List.replicate m (.int .i64 mk)) hx (by simp) news one ?_ big (by omega) ?_ (fun _ v' w' ho hgr=>grow v' w' ho hgr)
  ·rw [Nat.zero_add,hown.cellAt j (by have:=(List.getElem?_eq_some_iff.1 hj).1;simpa using this)];exact hj
  ·intro hr j hj
   rw [List.length_replicate] at hj
   refine ⟨?_,hown.frozenAt _⟩
   rw [cell_of_row w g _ _ _ _ hgc,Array.getElem?_eq_getElem (by omega)]
   rfl
  ·intro hr
   obtain ⟨cs',k1,k2,k3,k4,k5,k6,k7,k8⟩:=setCells_block (List.replicate m (Value.int .i64 mk)) (0+n * 1) w cur e hgc
   have hin:∀ j,j<m→(w.setCells g (0+n * 1) (List.replicate m (Value.int .i64 mk))).cell? ⟨g,0+n * 1+j,none⟩=some (.int .i64 mk):=fun j hj=>by
    rw [World.cell?_setCells_in g _ _ w (fun j hj=>by rw [List.length_replicate] at hj;rw [cell_of_row w g _ _ _ _ hgc,Array.getElem?_eq_getElem (by omega)];rfl) j (by simpa using hj),List.getElem_replicate]
   have keep:∀ b c,w.cell? ⟨b,c,none⟩=some (.int .i64 mk)→(w.setCells g (0+n * 1) (List.replicate m (Value.int .i64 mk))).cell? ⟨b,c,none⟩=some (.int .i64 mk):=fun b c hcell=>by
    by_cases hh:b=g∧0+n * 1≤c∧c<0+n * 1+m
    ·obtain ⟨rfl,hc1,hc2⟩:=hh
     have:=hin (c - (0+n * 1)) (by omega)
     rwa [show 0+n * 1+(c - (0+n * 1))=c by omega] at this
    ·rw [World.cell?_setCells_out g _ _ w ⟨b,c,none⟩ (fun hb' _=>by
      have hb'':b=g:=hb'
      show c<0+n * 1∨0+n * 1+(List.replicate m (Value.int .i64 mk)).length≤c
      rw [List.length_replicate];omega)]
     exact hcell
   refine h _ _ ⟨by simp,.inr ⟨g,cap,cs',rfl,hb,k1,hnc,hcm,by rw [k2];exact hcs,?_⟩⟩ ⟨k6,k7,k8,by rw [k4];exact Nat.le_refl _,fun k _ hk=>k5 k (fun e=>hk (by rw [e];rfl))⟩ keep ?_ ⟨_,_,rfl⟩
   ·rw [Nat.zero_add] at k3
    rw [k3];exact htake
   ·refine ⟨some ⟨g,0,none⟩,cap,rfl,by omega,fun hp=>⟨g,0,rfl,.inl rfl,by rw [k4];exact (Array.getElem?_eq_some_iff.1 hgc).1,fun c hc'=>?_⟩⟩
    by_cases hcn:c<n
    ·refine keep g (0+c) ?_
     rw [hown.cellAt (0+c) (by omega),List.getElem?_replicate,if_pos (by omega)]
    ·have:=hin (c - n) (by omega)
     rwa [show 0+n * 1+(c - n)=0+c by omega] at this
theorem marks_block (w:World) (cs:Array Value) (t:TypeId) (m:Nat) (mk:Int) (h:cs.toList=List.replicate m (.int .i64 mk)):∀ j,j<m→(w.alloc (.cells cs t)).cell? ((⟨w.heap.size,0,none⟩:Addr).add j)=some (.int .i64 mk):=by
 intro j hj
 refine World.news_of_block (cs:=cs) (t:=t) (fr:=(0,0)) (heap_alloc_new w _) j _ ?_
 rw [h,List.getElem?_replicate,if_pos hj]
theorem grown_trans {w w1 w2:World}{row:Option Nat} (h1:w.grownBy w1 row) (h2:w1.grownBy w2 row):w.grownBy w2 row:=
 ⟨h2.os.trans h1.os,h2.tape.trans h1.tape,h2.output.trans h1.output,Nat.le_trans h1.size h2.size,fun k hk hne=>(h2.block k (Nat.lt_of_lt_of_le hk h1.size) hne).trans (h1.block k hk hne)⟩
theorem grown_alloc (w:World) (o:Obj) (row:Option Nat):w.grownBy (w.alloc o) row:=⟨rfl,rfl,rfl,by simp,fun k hk _=>Below.heap_alloc _ _ _ hk⟩
theorem grown_set {w w1:World}{row:Option Nat} (h:w.grownBy w1 row) {p:Addr} (hp:w.heap.size≤p.block) (u:Value):w.grownBy (w1.setCell p u) row:=
 ⟨h.os,h.tape,h.output,by simpa using h.size,fun k hk hne=>(Below.heap_setCell _ _ _ _ (by omega)).trans (h.block k hk hne)⟩
end Go.Proofs.YtmndgoapkmhglabGreat
namespace Go.Proofs.YtmndgoapkmhglabGreat
open Go.RowKit
attribute [local go_sem ↓] Go.wp_at_zero Go.wp_at_succ
structure OwnV where
 a:Value
 b:Value
 c:Value
 d:Value
 n:Nat
 m:Int
abbrev OwnV.val (o:OwnV):Value:=.agg #[o.a,o.b,o.c,o.d,.int .i64 o.m]
def OwnV.cells (o:OwnV):List Value:=[o.a,o.b,o.c,o.d,.int .i64 o.m]
structure OwnAt (w:World) (K:Nat→Prop) (o:OwnV):Prop where
 a:AllM w K o.a o.n o.m
 b:AllM w K o.b (o.n+1) o.m
 c:AllM w K o.c (o.n+2) o.m
 d:AllM w K o.d (o.n+6) o.m
theorem OwnAt.keep {w w':World}{K K':Nat→Prop}{o:OwnV} (h:OwnAt w K o) (hs:w.heap.size≤w'.heap.size) (hk:∀ b,b<w.heap.size→K b→K' b)
  (hc:∀ b,b<w.heap.size→K b→∀ c,w.cell? ⟨b,c,none⟩=some (.int .i64 o.m)→w'.cell? ⟨b,c,none⟩=some (.int .i64 o.m)):OwnAt w' K' o:=
 ⟨h.a.keep hs hk hc,h.b.keep hs hk hc,h.c.keep hs hk hc,h.d.keep hs hk hc⟩
theorem OwnAt.below {w w':World}{K:Nat→Prop}{o:OwnV} (h:OwnAt w K o) (hb:Below w.heap.size w w'):OwnAt w' K o:=
 ⟨h.a.below hb,h.b.below hb,h.c.below hb,h.d.below hb⟩
theorem set_mark {xs:List Int}{m:Nat}{mk:Int} (h:m<xs.length):((List.replicate m (Value.int .i64 mk)) ++ ((xs.map fun x=>Value.int .i64 x).drop m)).set m (.int .i64 mk)=(List.replicate (m+1) (Value.int .i64 mk)) ++ ((xs.map fun x=>Value.int .i64 x).drop (m+1)):=by
 rw [List.set_append_right _ _ (by simp),List.length_replicate,Nat.sub_self,List.drop_eq_getElem_cons (by simpa using h),List.set_cons_zero,List.replicate_succ',List.append_assoc]
 rfl
theorem box3 {wr w1 w2 w3:World}{b:Nat}{row:Option Nat}{o1 o2 o3 o:Obj} (hne:some b≠row) (hlt:b<wr.heap.size) (hb:wr.heap[b]? = some o) (h1:(wr.alloc o1).grownBy w1 row) (h2:(w1.alloc o2).grownBy w2 row) (h3:(w2.alloc o3).grownBy w3 row):w3.heap[b]? = some o:=by
 have s1:=h1.size
 have s2:=h2.size
 simp at s1 s2
 rw [h3.block b (by simp;omega) hne,Below.heap_alloc _ _ _ (by omega),h2.block b (by simp;omega) hne,Below.heap_alloc _ _ _ (by omega),h1.block b (by simp;omega) hne,Below.heap_alloc _ _ _ hlt]
 exact hb
set_option maxHeartbeats 2000000 in
set_option maxRecDepth 100000 in
theorem lown_any (w:World) (B:Nat) (v:Value) (xs:List Int) (mk:Int) (h:w.ownsRow B 3 1 v xs.length (xs.map fun x=>.int .i64 x)) (hn:xs.length≤100000) :
  Calls Tryz.prog 10 #[v,.int .i64 mk] w fun e w'=>∃ o:OwnV,e = .returned o.val∧o.a=v∧o.n=xs.length∧o.m=mk∧OwnAt w' (fun b=>v.ownBlock=some b∨w.heap.size≤b) o∧w.grownBy w' v.ownBlock:=by
 obtain ⟨i0,hi0,hz0,hz1,hz2⟩:=info_parts Tryz.infoInt
 obtain ⟨A,C,rfl,hsh⟩:=own_shape h
 have HW:=hide h
 have HSH:=hide hsh
 clear h hsh
 go_enter Tryz.func10,Tryz.ntmps10
 go_wp2
 go_loopw [5] (fun vi wr=>∃ m:Nat,m≤xs.length∧vi = .int .i64 m∧wr.ownsRow B 3 1 (.slice A xs.length C) xs.length ((List.replicate m (Value.int .i64 mk)) ++ ((xs.map fun x=>Value.int .i64 x).drop m))∧w.grownBy wr (Value.slice A xs.length C).ownBlock∧w.heap.size<wr.heap.size∧wr.heap[w.heap.size]? = some (.cells #[.slice none 0 0,.slice none 0 0,.slice none 0 0,.slice none 0 0,.int .i64 0] 41)) (fun vi _=>xs.length - (intOf vi).toNat)
 case atStart=>exact ⟨0,Nat.zero_le _,rfl,by simpa using HW.out.alloc _,grown_alloc _ _ _,by simp,heap_alloc_new w _⟩
 case round=>
  obtain ⟨m,hm,rfl,hown,hgr,hlt,hbx⟩:=hrel
  have HBX:=hide hbx
  have HNE:Hid ((Value.slice A xs.length C).ownBlock≠some w.heap.size):=hide (fun e=>by have:=(HW.out.lt _ e).2;omega)
  have HO:=hide hown
  have HG:=hide hgr
  clear hown hgr hbx
  by_cases hml:m<xs.length
  ·obtain ⟨g,rfl,_,hgl⟩:=HSH.out (by omega)
   have hc:=HO.out.cellAt m (by omega)
   rw [List.getElem?_append_right (by simp),List.length_replicate,Nat.sub_self,List.getElem?_drop,List.getElem?_map,Nat.add_zero,List.getElem?_eq_getElem hml] at hc
   have hf:=HO.out.frozenAt m
   have j3:(0:Int)≤(m:Int):=by omega
   have j4:(m:Int)<(xs.length:Int):=by omega
   obtain ⟨hs1,hs2⟩:=HO.out.stored m (.int .i64 mk)
   rw [set_mark hml] at hs1
   have HS1:=hide hs1
   have HS2:=hide hs2
   simp only [Option.map_some] at hc
   generalize xs[m]=u at hc
   clear hs1 hs2
   go_wp2
   go_roundw
   case rel=>exact ⟨m+1,by omega,by go_num,by first | exact HS1.out | exact HS1.out.drew,⟨HS2.out.os.trans HG.out.os,HS2.out.tape.trans HG.out.tape,HS2.out.output.trans HG.out.output,Nat.le_trans HG.out.size HS2.out.size,fun k hk hne=>(HS2.out.block k (Nat.lt_of_lt_of_le hk HG.out.size) hne).trans (HG.out.block k hk hne)⟩,by simpa using hlt,(HS2.out.block w.heap.size hlt (Ne.symm HNE.out)).trans HBX.out⟩
   case measure=>simp [intOf];omega
  ·have em:m=xs.length:=by omega
   subst em
   have z1:¬ (xs.length:Int)<(xs.length:Int):=by omega
   have hown0:=HO.out
   rw [List.drop_of_length_le (by simp),List.append_nil] at hown0
   have hsz:=HG.out.size
   clear HO HW HSH
   go_wp2_with (at_builtin;first
    | (refine append_marks _ rfl _ _ _ rfl 3 i0 _ Tryz.underlying36 hi0 hz0 hz1 hz2 rfl B xs.length 1 mk _ rfl (hown0.alloc _) ⟨wr.heap.size,0,none⟩ 1 rfl (marks_block _ _ _ 1 mk rfl) (by omega) (by omega) ?_;intro v1 w1 ho1 hg1 hk1 ha1 hs1;obtain ⟨A1,C1,rfl⟩:=hs1)
    | (refine append_marks _ rfl _ _ _ rfl 3 i0 _ Tryz.underlying36 hi0 hz0 hz1 hz2 rfl B xs.length 2 mk _ rfl (ho1.alloc _) ⟨w1.heap.size,0,none⟩ 2 rfl (marks_block _ _ _ 2 mk rfl) (by omega) (by omega) ?_;intro v2 w2 ho2 hg2 hk2 ha2 hs2;obtain ⟨A2,C2,rfl⟩:=hs2)
    | (refine append_marks _ rfl _ _ _ rfl 3 i0 _ Tryz.underlying36 hi0 hz0 hz1 hz2 rfl B xs.length 6 mk _ rfl (ho2.alloc _) ⟨w2.heap.size,0,none⟩ 6 rfl (marks_block _ _ _ 6 mk rfl) (by omega) (by omega) ?_;intro v3 w3 ho3 hg3 hk3 ha3 hs3;obtain ⟨A3,C3,rfl⟩:=hs3;have hb3:=box3 (Ne.symm HNE.out) hlt HBX.out hg1 hg2 hg3;have c0:=cell_of_row w3 w.heap.size 0 _ _ _ hb3;have c1:=cell_of_row w3 w.heap.size 1 _ _ _ hb3;have c2:=cell_of_row w3 w.heap.size 2 _ _ _ hb3;have c3:=cell_of_row w3 w.heap.size 3 _ _ _ hb3;have c4:=cell_of_row w3 w.heap.size 4 _ _ _ hb3;have f0:=frozen_of_row w3 w.heap.size 0 _ _ hb3;have f1:=frozen_of_row w3 w.heap.size 1 _ _ hb3;have f2:=frozen_of_row w3 w.heap.size 2 _ _ hb3;have f3:=frozen_of_row w3 w.heap.size 3 _ _ hb3;have f4:=frozen_of_row w3 w.heap.size 4 _ _ hb3))
   have hs1:=hg1.size
   have hs2:=hg2.size
   have hs3:=hg3.size
   simp at hs1 hs2 hs3
   have hal:∀ (W:World) (o:Obj) (b c:Nat),b<W.heap.size→(W.alloc o).cell? ⟨b,c,none⟩=W.cell? ⟨b,c,none⟩:=fun W o b c h=>World.cell?_alloc_past _ _ _ h
   have hw:∀ b,b<w3.heap.size→((Value.slice A xs.length C).ownBlock=some b∨wr.heap.size≤b)→b≠w.heap.size:=fun b _ hb e=>by
    rcases hb with hb | hb
    ·rw [e] at hb;exact HNE.out hb
    ·omega
   have k0:AllM wr (fun b=>(Value.slice A xs.length C).ownBlock=some b∨wr.heap.size≤b) (.slice A xs.length C) xs.length mk:=own_allM (by omega) hown0 _ (fun b hb=>.inl hb)
   have up1:∀ v n,AllM wr (fun b=>(Value.slice A xs.length C).ownBlock=some b∨wr.heap.size≤b) v n mk→AllM w1 (fun b=>(Value.slice A xs.length C).ownBlock=some b∨wr.heap.size≤b) v n mk:=fun v n h=>h.keep (by omega) (fun _ _ h=>h) (fun b hb _ c hc=>hk1 b c ((hal _ _ b c hb).trans hc))
   have up2:∀ v n,AllM w1 (fun b=>(Value.slice A xs.length C).ownBlock=some b∨wr.heap.size≤b) v n mk→AllM w2 (fun b=>(Value.slice A xs.length C).ownBlock=some b∨wr.heap.size≤b) v n mk:=fun v n h=>h.keep (by omega) (fun _ _ h=>h) (fun b hb _ c hc=>hk2 b c ((hal _ _ b c hb).trans hc))
   have up3:∀ v n,AllM w2 (fun b=>(Value.slice A xs.length C).ownBlock=some b∨wr.heap.size≤b) v n mk→AllM w3 (fun b=>(Value.slice A xs.length C).ownBlock=some b∨wr.heap.size≤b) v n mk:=fun v n h=>h.keep (by omega) (fun _ _ h=>h) (fun b hb _ c hc=>hk3 b c ((hal _ _ b c hb).trans hc))
   have l1:AllM w1 (fun b=>(Value.slice A xs.length C).ownBlock=some b∨wr.heap.size≤b) (.slice A1 (xs.length+1) C1) (xs.length+1) mk:=ha1.keep (Nat.le_refl _) (fun b _ h=>h.imp id (fun h=>by simp at h;omega)) (fun _ _ _ _ h=>h)
   have l2:AllM w2 (fun b=>(Value.slice A xs.length C).ownBlock=some b∨wr.heap.size≤b) (.slice A2 (xs.length+2) C2) (xs.length+2) mk:=ha2.keep (Nat.le_refl _) (fun b _ h=>h.imp id (fun h=>by simp at h;omega)) (fun _ _ _ _ h=>h)
   have l3:AllM w3 (fun b=>(Value.slice A xs.length C).ownBlock=some b∨wr.heap.size≤b) (.slice A3 (xs.length+6) C3) (xs.length+6) mk:=ha3.keep (Nat.le_refl _) (fun b _ h=>h.imp id (fun h=>by simp at h;omega)) (fun _ _ _ _ h=>h)
   have q0:=up3 _ _ (up2 _ _ (up1 _ _ k0))
   have q1:=up3 _ _ (up2 _ _ l1)
   have q2:=up3 _ _ l2
   have hgr:w.grownBy w3 (Value.slice A xs.length C).ownBlock:=grown_trans (grown_trans (grown_trans HG.out (grown_trans (grown_alloc _ _ _) hg1)) (grown_trans (grown_alloc _ _ _) hg2)) (grown_trans (grown_alloc _ _ _) hg3)
   have fin:∀ v n u0 u1 u2 u3 u4,AllM w3 (fun b=>(Value.slice A xs.length C).ownBlock=some b∨wr.heap.size≤b) v n mk→AllM (((((w3.setCell ⟨w.heap.size,0,none⟩ u0).setCell ⟨w.heap.size,1,none⟩ u1).setCell ⟨w.heap.size,2,none⟩ u2).setCell ⟨w.heap.size,3,none⟩ u3).setCell ⟨w.heap.size,4,none⟩ u4) (fun b=>(Value.slice A xs.length C).ownBlock=some b∨w.heap.size≤b) v n mk:=fun v n u0 u1 u2 u3 u4 h=>by
    refine h.keep (by simp) (fun b _ h=>h.imp id (fun h=>by omega)) (fun b hb hK c hc=>?_)
    have hne:=hw b hb hK
    rw [World.cell?_setCell_other _ _ _ _ (by intro e;exact hne (congrArg Addr.block e).symm),World.cell?_setCell_other _ _ _ _ (by intro e;exact hne (congrArg Addr.block e).symm),World.cell?_setCell_other _ _ _ _ (by intro e;exact hne (congrArg Addr.block e).symm),World.cell?_setCell_other _ _ _ _ (by intro e;exact hne (congrArg Addr.block e).symm),World.cell?_setCell_other _ _ _ _ (by intro e;exact hne (congrArg Addr.block e).symm)]
    exact hc
   refine bodyPost_ret (v:=.agg #[.slice A xs.length C,.slice A1 (xs.length+1) C1,.slice A2 (xs.length+2) C2,.slice A3 (xs.length+6) C3,.int .i64 mk]) (by simp [results,Tryz.results10,go_sem,c0,c1,c2,c3,c4]) rfl ?_
   exact ⟨⟨.slice A xs.length C,.slice A1 (xs.length+1) C1,.slice A2 (xs.length+2) C2,.slice A3 (xs.length+6) C3,xs.length,mk⟩,rfl,rfl,rfl,rfl,⟨fin _ _ _ _ _ _ _ q0,fin _ _ _ _ _ _ _ q1,fin _ _ _ _ _ _ _ q2,fin _ _ _ _ _ _ _ l3⟩,grown_set (grown_set (grown_set (grown_set (grown_set hgr (Nat.le_refl _) _) (Nat.le_refl _) _) (Nat.le_refl _) _) (Nat.le_refl _) _) (Nat.le_refl _) _⟩
set_option maxHeartbeats 1000000 in
theorem lholds_any (w:World) (K:Nat→Prop) (o:OwnV) (h:OwnAt w K o) :
  Calls Tryz.prog 11 #[o.val] w fun e w'=>e = .returned (.bool true)∧Below w.heap.size w w':=by
 obtain ⟨a,b,c,d,n,mk⟩:=o
 have hal:∀ k,(List.replicate k mk).all (· == mk)=true:=fun k=>by rw [List.all_eq_true];intro x hx;rw [(List.mem_replicate.1 hx).2];simp
 have H1:=hide (fun W (hW:Below w.heap.size w W)=>lfull_any W a _ mk (h.a.below hW).row)
 have H2:=hide (fun W (hW:Below w.heap.size w W)=>lfull_any W b _ mk (h.b.below hW).row)
 have H3:=hide (fun W (hW:Below w.heap.size w W)=>lfull_any W c _ mk (h.c.below hW).row)
 have H4:=hide (fun W (hW:Below w.heap.size w W)=>lfull_any W d _ mk (h.d.below hW).row)
 simp only [hal] at H1 H2 H3 H4
 obtain ⟨A1,C1,e1,_⟩:=h.a
 obtain ⟨A2,C2,e2,_⟩:=h.b
 obtain ⟨A3,C3,e3,_⟩:=h.c
 obtain ⟨A4,C4,e4,_⟩:=h.d
 simp only at e1 e2 e3 e4
 subst e1 e2 e3 e4
 clear h hal
 obtain ⟨bx,hbx⟩:∃ bx,bx=w.alloc (.cells #[.slice A1 n C1,.slice A2 (n+1) C2,.slice A3 (n+2) C3,.slice A4 (n+6) C4,.int .i64 mk] 41):=⟨_,rfl⟩
 have HB0:Hid (Below w.heap.size w bx):=hide (by rw [hbx];exact (Below.refl _ _).alloc (Nat.le_refl _) _)
 have HSZ:Hid (w.heap.size<bx.heap.size):=hide (by rw [hbx];simp)
 have HC:Hid (∀ W,Below bx.heap.size bx W→W.cell? ⟨w.heap.size,1,none⟩=some (.slice A2 (n+1) C2)∧W.cell? ⟨w.heap.size,2,none⟩=some (.slice A3 (n+2) C3)∧W.cell? ⟨w.heap.size,3,none⟩=some (.slice A4 (n+6) C4)∧W.cell? ⟨w.heap.size,4,none⟩=some (.int .i64 mk)):=hide (fun W hW=>by
  have hN:W.heap[w.heap.size]? = some (.cells #[.slice A1 n C1,.slice A2 (n+1) C2,.slice A3 (n+2) C3,.slice A4 (n+6) C4,.int .i64 mk] 41):=(hW.block w.heap.size HSZ.out).trans (by rw [hbx];exact heap_alloc_new w _)
  exact ⟨by rw [cell_of_row W _ 1 _ _ _ hN];rfl,by rw [cell_of_row W _ 2 _ _ _ hN];rfl,by rw [cell_of_row W _ 3 _ _ _ hN];rfl,by rw [cell_of_row W _ 4 _ _ _ hN];rfl⟩)
 go_enter Tryz.func11,Tryz.ntmps11
 go_wp2_with fail
 rw [← hbx]
 refine (H1.out bx HB0.out).mono ?_
 rintro e w1 ⟨rfl,hb1⟩
 obtain ⟨x1,x2,x3,x4⟩:=HC.out w1 hb1
 have HB1:=hide hb1
 clear hb1
 go_wp2_with fail
 refine (H2.out w1 (HB0.out.trans (HB1.out.mono HB0.out.size))).mono ?_
 rintro e w2 ⟨rfl,hb2⟩
 have HB2:=hide (HB1.out.trans (hb2.mono HB1.out.size))
 clear hb2 x1 x2 x3 x4
 obtain ⟨x1,x2,x3,x4⟩:=HC.out w2 HB2.out
 go_wp2_with fail
 refine (H3.out w2 (HB0.out.trans (HB2.out.mono HB0.out.size))).mono ?_
 rintro e w3 ⟨rfl,hb3⟩
 have HB3:=hide (HB2.out.trans (hb3.mono HB2.out.size))
 clear hb3 x1 x2 x3 x4
 obtain ⟨x1,x2,x3,x4⟩:=HC.out w3 HB3.out
 go_wp2_with fail
 refine (H4.out w3 (HB0.out.trans (HB3.out.mono HB0.out.size))).mono ?_
 rintro e w4 ⟨rfl,hb4⟩
 have HB4:=hide (HB3.out.trans (hb4.mono HB3.out.size))
 clear hb4 x1 x2 x3 x4
 go_wp2
 go_ret
 exact ⟨rfl,HB0.out.trans (HB4.out.mono HB0.out.size)⟩
end Go.Proofs.YtmndgoapkmhglabGreat
