import Derived.Laws.CopyOwn
import Derived.Deep.Matrix
import Derived.SizedLaws
import Derived.Carry
import Derived.ProofKit
import Derived.Test.YtmndgoapkmhglabGreatM02BoxC
import Derived.Test.YtmndgoapkmhglabGreatM11JudC
import Derived.Test.YtmndgoapkmhglabGreatM16RefA
import Derived.Test.YtmndgoapkmhglabGreatM20OpC
import Derived.Test.YtmndgoapkmhglabGreatM21RefI
import Derived.Test.YtmndgoapkmhglabGreatM30RunX
import Derived.Test.YtmndgoapkmhglabGreatM31LawP
namespace Go.Proofs.YtmndgoapkmhglabGreat
open Go.RowKit
def nextF (sc:List OpF) (i:Nat):Int:=if laterF sc i<0 then -1 else IntKind.i64.wrap ((actF sc (laterF sc i).toNat).a - (actF sc i).a)
def hereK (ws:List Nat) (q:Int):Bool:=ws.any fun p=>((p:Nat):Int) == q
def badK (ws:List Nat) (sc:List OpF) (i:Nat):Bool:=
 !hereK ws (actF sc i).k || decide ((actF sc i).a<0) || decide (1099511627776<(actF sc i).a) || decide ((actF sc i).b<0) || decide (1099511627776<(actF sc i).b) || decide ((actF sc i).c<0) || decide (1099511627776<(actF sc i).c) || backA sc i ||
 (decide (0≤nextF sc i) && (decide (nextF sc i≤(actF sc i).b) || decide (nextF sc i≤(actF sc i).c)))
def playK (ws:List Nat) (sc:List OpF):Bool:=decide (sc.length≤400) && (List.range sc.length).all fun i=>!badK ws sc i
theorem atR_here (ts:List Tk) (L:List Dl) (q:Int):atR ts L q≠[]↔hereK (plR ts L) q=true:=by
 unfold hereK plR
 rw [List.any_map,List.any_eq_true]
 constructor
 ·intro h
  cases hc:atR ts L q with
  | nil=>exact absurd hc h
  | cons i r=>
   have hi:i∈atR ts L q:=by rw [hc];simp
   unfold atR atG at hi
   rw [List.mem_filter] at hi
   cases hx:(eqL L)[i]? with
   | none=>rw [hx] at hi;simp at hi
   | some x=>
    rw [hx] at hi
    exact ⟨x,List.mem_of_getElem? hx,by simpa using hi.2⟩
 ·rintro ⟨x,hx,he⟩ hn
  obtain ⟨i,hi,rfl⟩:=List.getElem_of_mem hx
  have:i∈atR ts L q:=by
   unfold atR atG
   rw [List.mem_filter,List.mem_range]
   refine ⟨hi,?_⟩
   rw [List.getElem?_eq_getElem hi]
   simpa using he
  rw [hn] at this
  simp at this
theorem badK_iff (ws:List Nat) (sc:List OpF) (i:Nat):badK ws sc i=false↔hereK ws (actF sc i).k=true∧(0≤(actF sc i).a∧(actF sc i).a≤1099511627776)∧(0≤(actF sc i).b∧(actF sc i).b≤1099511627776)∧(0≤(actF sc i).c∧(actF sc i).c≤1099511627776)∧backA sc i=false∧(0≤nextF sc i→(actF sc i).b<nextF sc i∧(actF sc i).c<nextF sc i):=by
 unfold badK
 simp only [Bool.or_eq_false_iff,Bool.and_eq_false_iff,decide_eq_false_iff_not,Bool.not_eq_false']
 constructor
 ·rintro ⟨⟨⟨⟨⟨⟨⟨⟨h1,h2⟩,h3⟩,h4⟩,h5⟩,h6⟩,h7⟩,h8⟩,h9⟩
  exact ⟨h1,⟨by omega,by omega⟩,⟨by omega,by omega⟩,⟨by omega,by omega⟩,h8,fun h=>by omega⟩
 ·rintro ⟨h1,h2,h3,h4,h5,h6⟩
  refine ⟨⟨⟨⟨⟨⟨⟨⟨h1,by omega⟩,by omega⟩,by omega⟩,by omega⟩,by omega⟩,by omega⟩,h5⟩,?_⟩
  by_cases h:0≤nextF sc i
  ·have:=h6 h;exact .inr ⟨by omega,by omega⟩
  ·exact .inl h
theorem back_iff (sc:List OpF) (i:Nat):backA sc i=false↔∀ j,i=j+1→(actF sc j).a≤(actF sc i).a:=by
 cases i with
 | zero=>exact ⟨fun _ j e=>by omega,fun _=>rfl⟩
 | succ i=>
  unfold backA
  rw [decide_eq_false_iff_not]
  exact ⟨fun h j e=>(by rw [show j=i by omega];omega),fun h=>(by have:=h i rfl;omega)⟩
theorem playK_eq (ts:List Tk) (L:List Dl) (sc:List OpF):playK (plR ts L) sc=playF ts L sc:=by
 rw [Bool.eq_iff_iff,play_iff]
 unfold playK
 rw [Bool.and_eq_true,decide_eq_true_iff,List.all_eq_true]
 refine and_congr Iff.rfl ⟨fun h=>?_,fun h i hi=>?_⟩
 ·have hk:∀ i,i<sc.length→badK (plR ts L) sc i=false:=fun i hi=>by
   have:=h i (List.mem_range.2 hi);rwa [Bool.not_eq_true'] at this
  have hmono:∀ (i j:Nat),i≤j→j<sc.length→(actF sc i).a≤(actF sc j).a:=by
   intro i j hij
   induction j with
   | zero=>intro _;rw [show i=0 by omega];exact Int.le_refl _
   | succ j ih=>
    intro hj
    rcases Nat.eq_or_lt_of_le hij with rfl | h'
    ·exact Int.le_refl _
    ·have h1:=ih (by omega) (by omega)
     have h2:=(back_iff sc (j+1)).1 ((badK_iff _ _ _).1 (hk (j+1) hj)).2.2.2.2.1 j rfl
     omega
  intro i hi
  obtain ⟨h1,h2,h3,h4,h5,h6⟩:=(badK_iff _ _ _).1 (hk i hi)
  refine ⟨(atR_here ts L _).2 h1,h2,h3,h4,(back_iff sc i).1 h5,?_⟩
  unfold overA
  by_cases hl:0≤laterF sc i
  ·obtain ⟨m,e,g1,g2⟩:=later_nat sc hi hl
   have hm:=((badK_iff _ _ _).1 (hk m g2)).2.1
   have hmo:=hmono i m (by omega) g2
   have hw:IntKind.i64.wrap ((actF sc m).a - (actF sc i).a)=(actF sc m).a - (actF sc i).a:=by rw [IntKind.wrap_i64];omega
   have hn:nextF sc i=(actF sc m).a - (actF sc i).a:=by unfold nextF;rw [if_neg (by omega),e,Int.toNat_natCast,hw]
   have:=h6 (by omega)
   rw [e,Int.toNat_natCast,hw]
   simp only [Bool.and_eq_false_iff,Bool.or_eq_false_iff,decide_eq_false_iff_not]
   exact .inr ⟨by omega,by omega⟩
  ·rw [decide_eq_false hl,Bool.false_and]
 ·rw [Bool.not_eq_true',badK_iff]
  have hi':=List.mem_range.1 hi
  have ha:=h i hi'
  refine ⟨(atR_here ts L _).1 ha.here,ha.a0,ha.b0,ha.c0,(back_iff sc i).2 ha.back,fun hn=>?_⟩
  by_cases hl:laterF sc i<0
  ·unfold nextF at hn;rw [if_pos hl] at hn;omega
  ·obtain ⟨m,e,g1,g2⟩:=later_nat sc hi' (by omega)
   have hov:=ha.over
   unfold overA at hov
   have hd:decide (0≤laterF sc i)=true:=by simp;omega
   rw [hd,Bool.true_and,Bool.or_eq_false_iff,decide_eq_false_iff_not,decide_eq_false_iff_not] at hov
   unfold nextF
   rw [if_neg hl]
   omega
theorem cnt_len (P:PastF) (pl:Int):cntF P pl 1+cntF P pl 2≤P.length:=by
 refine past_ind (p:=fun P=>cntF P pl 1+cntF P pl 2≤P.length) (by simp [cntF]) (fun P x ih=>?_) P
 rw [cntF_snoc,cntF_snoc,List.length_append]
 have:(if isD pl 1 x=true then 1 else 0)+(if isD pl 2 x=true then 1 else 0)≤1:=by
  unfold isD
  by_cases h1:x.2.did=1
  ·rw [h1];simp;split <;> omega
  ·by_cases h2:x.2.did=2
   ·rw [h2];simp;split <;> omega
   ·simp [h1,h2]
 simp
 omega
section
variable (N:List LnF) (V:Int→Nat→List Int) (sc:List OpF)
def pastI (i:Nat):PastF:=runG N V [] (sc.take i)
theorem past_succ {i:Nat} (hi:i<sc.length):pastI N V sc (i+1)=pastI N V sc i ++ [(sc[i],wakeF N V (pastI N V sc i) sc[i])]:=by
 unfold pastI
 rw [List.take_succ_eq_append_getElem hi,run_app]
 rfl
theorem past_get {i:Nat} (hi:i<sc.length):((runG N V [] sc).map Prod.snd)[i]? = some (wakeF N V (pastI N V sc i) sc[i]):=by
 have e:runG N V [] sc=runG N V (pastI N V sc (i+1)) (sc.drop (i+1)):=by
  unfold pastI
  rw [← run_app,List.take_append_drop]
 obtain ⟨S,h1,_,_⟩:=run_ext N V (sc.drop (i+1)) (pastI N V sc (i+1))
 obtain ⟨S0,f1,f2,_⟩:=run_ext N V (sc.take i) []
 have hl:(pastI N V sc i).length=i:=by
  unfold pastI
  rw [f1,List.nil_append,← List.length_map (f:=Prod.fst),f2,List.length_take]
  omega
 rw [e,h1,past_succ N V sc hi,List.map_append,List.map_append,List.append_assoc,List.getElem?_append_right (by rw [List.length_map,hl];exact Nat.le_refl _),List.length_map,hl,Nat.sub_self]
 rfl
theorem past_len {i:Nat} (hi:i≤sc.length):(pastI N V sc i).length=i:=by
 obtain ⟨S0,f1,f2,_⟩:=run_ext N V (sc.take i) []
 unfold pastI
 rw [f1,List.nil_append,← List.length_map (f:=Prod.fst),f2,List.length_take]
 omega
variable {N} {sc}
theorem past_all (hA:Apart N) (hS:ActsOk sc) {i:Nat} (hi:i<sc.length):PastOk N (pastI N V sc i) (sc[i]).a∧RunInv N (pastI N V sc i):=by
 have hg:(sc.take i).Pairwise (fun x y=>x.a≤y.a∧(x.k=y.k→x.a+x.b<y.a∧x.a+x.c<y.a)):=List.Pairwise.sublist (List.take_sublist _ _) hS.gap
 have h:=run_ind hA V (p:=fun _=>True) (fun _ _ _ _ _ _=>trivial) (sc.take i) [] (fun x hx=>hS.nn x (List.mem_of_mem_take hx)) (by simpa using hg) (fun t _=>past_start N t) (inv_start N) trivial
 refine ⟨h.2.2 _ (fun x hx=>?_),h.2.1⟩
 obtain ⟨S0,f1,f2,_⟩:=run_ext N V (sc.take i) []
 have hm:x.1∈sc.take i:=by rw [← f2,← List.nil_append S0,← f1];exact List.mem_map.2 ⟨x,hx,rfl⟩
 obtain ⟨j,hj,e⟩:=List.getElem_of_mem hm
 rw [List.length_take] at hj
 rw [List.getElem_take] at e
 rw [← e]
 have hp:=hS.gap
 rw [List.pairwise_iff_getElem] at hp
 exact (hp j i (by omega) hi (by omega)).1
end
end Go.Proofs.YtmndgoapkmhglabGreat
namespace Go.Proofs.YtmndgoapkmhglabGreat
def marksF (s:ByteArray):List Nat:=mkL s.size 0 s.data.toList
theorem fine_dig {t:Tk} (h:Fine t) (h3:t.kind=3):isDig t=true∧(∀ c∈t.l,48≤c.toNat∧c.toNat≤57)∧t.l≠[]:=by
 rcases h with ⟨cl,hcl,hne,hall,hk⟩ | ⟨c,_,h4,hk⟩
 ·obtain ⟨e1,e2⟩:=kind3_cls (hk.symm.trans h3)
  subst e1
  refine ⟨?_,fun c hc=>cls_two (W_cls (hall c hc)),hne⟩
  unfold isDig
  cases hl:t.l with
  | nil=>exact absurd hl hne
  | cons c r=>rw [hl] at hall;simpa using hall c (by simp)
 ·have:=(kind3_cls (hk.symm.trans h3)).1
  omega
theorem toks_fine (s:ByteArray) (i:Nat) (h:(tkAt (toks s) i).kind≠0):Fine (tkAt (toks s) i):=by
 by_cases hi:i<(tk 0 s.data.toList).length
 ·rw [toks_list,tkAt_left hi];exact tk_fine _ _ _ rfl _ (tkAt_mem hi)
 ·exfalso
  rw [toks_list] at h
  by_cases e:i=(tk 0 s.data.toList).length
  ·rw [e,tkAt_mid] at h;exact h rfl
  ·unfold tkAt at h
   rw [List.getD_eq_getElem?_getD,List.getElem?_eq_none (by simp;omega)] at h
   exact h rfl
theorem marks_text {s:ByteArray}{L:List Dl} (h:Spell (toks s) L 0):marksF s=(eqL L).map fun x=>lastD (tkAt (toks s) (x.i+3)):=by
 have hs:=size_list s
 unfold marksF
 rw [marks_tk s.data.toList.length s.size 0 s.data.toList rfl (by omega),← marks_spell (toks_F s) (toks_end s) (fun i h3=>(fine_dig (toks_fine s i (by omega)) h3).1) L 0 h]
 rw [List.drop_zero,toks_list,marksT_end _ rfl]
end Go.Proofs.YtmndgoapkmhglabGreat
namespace Go.Proofs.YtmndgoapkmhglabGreat
open Go.RowKit
def seatsF (s:ByteArray):List Nat:=(marksF s).map fun m=>byt s m - 48
end Go.Proofs.YtmndgoapkmhglabGreat
namespace Go.Proofs.YtmndgoapkmhglabGreat
theorem tk_sub:∀ n k (l:List UInt8),l.length=n→∀ t∈tk k l,k≤t.pos∧∀ j (hj:j<t.l.length),l[t.pos - k+j]? = some t.l[j]:=by
 intro n
 induction n using Nat.strongRecOn with
 | _ n ih=>
  intro k l hn t ht
  cases l with
  | nil=>rw [tk_nil] at ht;simp at ht
  | cons c r=>
   simp only [List.length_cons] at hn
   by_cases h0:cls c.toNat=0
   ·rw [tk_blank h0] at ht
    obtain ⟨h1,h2⟩:=ih r.length (by omega) (k+1) r rfl t ht
    refine ⟨by omega,fun j hj=>?_⟩
    rw [show t.pos - k+j=(t.pos - (k+1)+j)+1 by omega,List.getElem?_cons_succ]
    exact h2 j hj
   ·by_cases h12:cls c.toNat=1∨cls c.toNat=2
    ·rw [tk_word h12] at ht
     have hl:=take_drop_len (W (cls c.toNat)) r
     rcases List.mem_cons.1 ht with rfl | ht
     ·refine ⟨Nat.le_refl _,fun j hj=>?_⟩
      have e:(tokW k (c :: r.takeWhile (W (cls c.toNat))) (cls c.toNat)).l=c :: r.takeWhile (W (cls c.toNat)):=tokW_l _ _ _
      simp only [e] at hj ⊢
      show (c :: r)[k - k+j]? = _
      rw [Nat.sub_self,Nat.zero_add,← List.getElem?_eq_getElem hj]
      cases j with
      | zero=>rfl
      | succ j=>
       rw [List.getElem?_cons_succ,List.getElem?_cons_succ]
       simp at hj
       have e2:=congrArg (fun l=>l[j]?) (List.takeWhile_append_dropWhile (p:=W (cls c.toNat)) (l:=r))
       rw [← e2,List.getElem?_append_left hj]
     ·obtain ⟨h1,h2⟩:=ih _ (by omega) _ _ rfl t ht
      refine ⟨by omega,fun j hj=>?_⟩
      have h3:=h2 j hj
      rw [← takeWhile_drop,List.getElem?_drop] at h3
      rw [← h3,show t.pos - k+j=((r.takeWhile (W (cls c.toNat))).length+(t.pos - (k+1+(r.takeWhile (W (cls c.toNat))).length)+j))+1 by omega,List.getElem?_cons_succ]
    ·rw [tk_one (by omega)] at ht
     rcases List.mem_cons.1 ht with rfl | ht
     ·refine ⟨Nat.le_refl _,fun j hj=>?_⟩
      have e:(tokW k [c] (cls c.toNat)).l=[c]:=tokW_l _ _ _
      simp only [e] at hj ⊢
      simp at hj
      subst hj
      show (c :: r)[k - k+0]? = _
      rw [Nat.sub_self];rfl
     ·obtain ⟨h1,h2⟩:=ih r.length (by omega) (k+1) r rfl t ht
      refine ⟨by omega,fun j hj=>?_⟩
      rw [show t.pos - k+j=(t.pos - (k+1)+j)+1 by omega,List.getElem?_cons_succ]
      exact h2 j hj
theorem toks_sub (s:ByteArray) (i:Nat) (h:(tkAt (toks s) i).kind≠0) (j:Nat) (hj:j<(tkAt (toks s) i).l.length):byt s ((tkAt (toks s) i).pos+j)=((tkAt (toks s) i).l[j]).toNat:=by
 have hi:i<(tk 0 s.data.toList).length:=by
  rcases Nat.lt_or_ge i (tk 0 s.data.toList).length with hi | hi
  ·exact hi
  ·exfalso
   rw [toks_list] at h
   by_cases e:i=(tk 0 s.data.toList).length
   ·rw [e,tkAt_mid] at h;exact h rfl
   ·unfold tkAt at h
    rw [List.getD_eq_getElem?_getD,List.getElem?_eq_none (by simp;omega)] at h
    exact h rfl
 have hm:tkAt (toks s) i∈tk 0 s.data.toList:=by rw [toks_list,tkAt_left hi];exact tkAt_mem hi
 generalize tkAt (toks s) i=t at hm hj ⊢
 have:=(tk_sub _ 0 s.data.toList rfl t hm).2 j hj
 rw [Nat.sub_zero] at this
 unfold byt
 rw [List.getD_eq_getElem?_getD,this]
 rfl
theorem val_last (l:List UInt8) (hd:∀ c∈l,48≤c.toNat∧c.toNat≤57) (hne:l≠[]) (h:valOf l<4):∃ (r:List UInt8) (d:UInt8),l=r ++ [d]∧d.toNat - 48=valOf l∧valOf r=0:=by
 rcases List.eq_nil_or_concat l with rfl | ⟨r,d,rfl⟩
 ·exact absurd rfl hne
 ·rw [List.concat_eq_append] at *
  rw [valOf_snoc] at h ⊢
  exact ⟨r,d,rfl,by omega,by omega⟩
theorem place_last {s:ByteArray}{k:Nat} (h3:(tkAt (toks s) k).kind=3) (h4:valOf (lAt (toks s) k)<4):byt s (lastD (tkAt (toks s) k)) - 48=valOf (lAt (toks s) k):=by
 obtain ⟨_,hd,hne⟩:=fine_dig (toks_fine s k (by omega)) h3
 obtain ⟨r,d,he,hv,_⟩:=val_last _ hd hne h4
 have hlen:(tkAt (toks s) k).l.length=r.length+1:=by rw [he];simp
 have hb:=toks_sub s k (by omega) r.length (by omega)
 unfold lastD
 rw [hlen,show (tkAt (toks s) k).pos+(r.length+1) - 1=(tkAt (toks s) k).pos+r.length by omega,hb,← hv]
 congr 2
 simp [he]
theorem seats_text {s:ByteArray}{L:List Dl} (h:Spell (toks s) L 0):seatsF s=(eqL L).map (placeD (toks s)):=by
 unfold seatsF
 rw [marks_text h,List.map_map]
 refine List.map_congr_left fun x hx=>?_
 have hm:=List.mem_filter.1 hx
 have hk:x.kind≠0:=by simpa using hm.2
 rcases (spell_mem L 0 h x hm.1).2.2 with ⟨h0,_⟩ | ⟨_,_,_,h4,_⟩
 ·exact absurd h0 hk
 ·exact place_last h4.1 h4.2
end Go.Proofs.YtmndgoapkmhglabGreat
namespace Go.Proofs.YtmndgoapkmhglabGreat
open Go.RowKit
def OpsAt (w:World) (v:Value) (ops:List OpF):Prop:=
 ∃ (A:Option Addr) (C:Nat),v = .slice A ops.length C∧ops.length≤4398046511104∧(0<ops.length→∃ b o,A=some ⟨b,o,none⟩∧b<w.heap.size∧∀ i,(h:i<ops.length)→
  w.cell? ⟨b,o+i * 4,none⟩=some (.int .i64 ops[i].k)∧w.cell? ⟨b,o+i * 4+1,none⟩=some (.int .i64 ops[i].a)∧w.cell? ⟨b,o+i * 4+2,none⟩=some (.int .i64 ops[i].b)∧w.cell? ⟨b,o+i * 4+3,none⟩=some (.int .i64 ops[i].c))
theorem OpsAt.below {w w':World}{v:Value}{ops:List OpF} (h:OpsAt w v ops) (hb:Below w.heap.size w w'):OpsAt w' v ops:=by
 obtain ⟨A,C,hv,hm,hc⟩:=h
 refine ⟨A,C,hv,hm,fun hp=>?_⟩
 obtain ⟨b,o,h1,h2,h3⟩:=hc hp
 refine ⟨b,o,h1,Nat.lt_of_lt_of_le h2 hb.size,fun i hi=>?_⟩
 obtain ⟨k0,k1,k2,k3⟩:=h3 i hi
 exact ⟨(hb.cell (p:=⟨b,o+i * 4,none⟩) h2).trans k0,(hb.cell (p:=⟨b,o+i * 4+1,none⟩) h2).trans k1,(hb.cell (p:=⟨b,o+i * 4+2,none⟩) h2).trans k2,(hb.cell (p:=⟨b,o+i * 4+3,none⟩) h2).trans k3⟩
def runE (s:ByteArray) (sc:List OpF):Nat:=if (textF s).1≠0 then (textF s).1 else if playK (seatsF s) sc then 0 else 11
def evCells (E:List EvF) (TV VV:Nat→Value):List Value:=(List.range E.length).flatMap fun i=>[.int .i64 ((E[i]?.map EvF.k).getD 0),.int .i64 ((E[i]?.map EvF.a).getD 0),.int .i64 ((E[i]?.map EvF.did).getD 0),.int .i64 ((E[i]?.map EvF.n).getD 0),TV i,VV i]
structure EvsOwn (B:Nat) (w:World) (v:Value) (E:List EvF) (TV VV:Nat→Value):Prop where
 row:w.ownsRow B 38 6 v E.length (evCells E TV VV)
 took:∀ i,(h:i<E.length)→w.ownsRow B 3 1 (TV i) E[i].took.length (pCells E[i].took)
 vals:∀ i,(h:i<E.length)→w.ownsRow B 3 1 (VV i) E[i].vals.length (iCells E[i].vals)
 apT:∀ i j,i<E.length→j<E.length→i≠j→∀ b,(TV i).ownBlock=some b→(TV j).ownBlock≠some b
 apV:∀ i j,i<E.length→j<E.length→i≠j→∀ b,(VV i).ownBlock=some b→(VV j).ownBlock≠some b
 apTV:∀ i j,i<E.length→j<E.length→∀ b,(TV i).ownBlock=some b→(VV j).ownBlock≠some b
 neT:∀ i,i<E.length→∀ b,(TV i).ownBlock=some b→v.ownBlock≠some b
 neV:∀ i,i<E.length→∀ b,(VV i).ownBlock=some b→v.ownBlock≠some b
def evsR (ts:List Tk) (L:List Dl) (ins:List (List Int)) (sc:List OpF):List EvF:=(runG (netR ts L) (valsR ts L ins) [] sc).map Prod.snd
def RunQ (s:ByteArray) (ins:List (List Int)) (sc:List OpF) (B:Nat) (w':World) (v:Value):Prop:=
 if runE s sc=0 then ∀ L,RGood s L→Right (toks s) L→∃ TV VV,EvsOwn B w' v (evsR (toks s) L ins sc) TV VV else ∃ a cap,v = .slice a 0 cap
theorem evsR_len (ts:List Tk) (L:List Dl) (ins:List (List Int)) (sc:List OpF):(evsR ts L ins sc).length=sc.length:=by
 unfold evsR
 obtain ⟨S,h1,h2,_⟩:=run_ext (netR ts L) (valsR ts L ins) sc []
 rw [List.length_map,h1,List.nil_append,← h2,List.length_map]
def fullN (N:List LnF) (P:PastF) (l:Nat):Bool:=decide (cntF P (lnAt N l).dst 1<tkF l P+lateN N l)
def untN (N:List LnF) (P:PastF) (l:Nat):Bool:=decide (tkF l P<cntF P (lnAt N l).src 2)
def comesN (N:List LnF) (P:PastF) (l:Nat):Int:=comesF (lnAt N l).src P 0
def knownN (P:PastF) (l:Nat):Int:=knownF l P 0
def holdsN (P:PastF) (pl:Int):Bool:=decide (cntF P pl 2<cntF P pl 1)
def fullT (N:List LnF) (P:PastF) (a:OpF) (l:Nat):Bool:=fullN N P l || canF N P a l
def untT (N:List LnF) (P:PastF) (a:OpF) (l:Nat):Bool:=untN N P l && !canF N P a l
def knownT (N:List LnF) (P:PastF) (a:OpF) (l:Nat):Int:=if canF N P a l then a.a+a.b else knownN P l
section
variable {N:List LnF} {P:PastF} {a:OpF} (hO:PastOk N P a.a) (hI:RunInv N P)
include hO hI
theorem can_same {l:Nat} (hl:l<N.length):canF N P a l=(decide ((lnAt N l).dst=a.k) && !fullN N P l && untN N P l && decide (comesN N P l≤a.a)):=by
 have hs:=hI.slot l hl
 rw [Bool.eq_iff_iff,can_iff hO hI hl]
 unfold fullN untN comesN
 simp only [Bool.and_eq_true,decide_eq_true_eq,Bool.not_eq_true',decide_eq_false_iff_not]
 constructor
 ·rintro ⟨h1,h2,h3,h4⟩
  rw [h1]
  exact ⟨⟨⟨rfl,by omega⟩,h2⟩,h3⟩
 ·rintro ⟨⟨⟨h1,h2⟩,h3⟩,h4⟩
  rw [h1] at hs h2
  exact ⟨h1,h3,h4,by omega⟩
theorem ready_same:readyF N P a=(!holdsN P a.k && (List.range N.length).all fun l=>!decide ((lnAt N l).dst=a.k) || fullT N P a l):=by
 have ht:=hI.turn a.k
 rw [Bool.eq_iff_iff,ready_iff hO hI,Bool.and_eq_true,List.all_eq_true]
 unfold holdsN
 rw [Bool.not_eq_true',decide_eq_false_iff_not]
 refine and_congr (by omega) ⟨fun h l hl=>?_,fun h l hl hd=>?_⟩
 ·rw [List.mem_range] at hl
  by_cases hd:(lnAt N l).dst=a.k
  ·have h1:=h l hl hd
   have hs:=hI.slot l hl
   unfold fullT fullN
   rw [hd] at hs ⊢
   simp only [decide_true,Bool.not_true,Bool.false_or]
   by_cases hc:canF N P a l=true
   ·rw [hc,Bool.or_true]
   ·rw [if_neg hc] at h1
    rw [Bool.or_eq_true,decide_eq_true_eq]
    exact .inl (by omega)
  ·simp [hd]
 ·have h1:=h l (List.mem_range.2 hl)
  have hs:=hI.slot l hl
  unfold fullT fullN at h1
  rw [hd] at hs h1
  simp only [decide_true,Bool.not_true,Bool.false_or,Bool.or_eq_true,decide_eq_true_eq] at h1
  by_cases hc:canF N P a l=true
  ·have:=((can_iff hO hI hl).1 hc).2.2.2
   rw [if_pos hc];omega
  ·rw [if_neg hc]
   rcases h1 with h1 | h1
   ·omega
   ·exact absurd h1 hc
theorem free_same (hA:Apart N) (h0:0≤a.a):freeF N P a=(holdsN P a.k && (List.range N.length).all fun l=>!decide ((lnAt N l).src=a.k) || (!untT N P a l && decide (knownT N P a l≤a.a))):=by
 have ht:=hI.turn a.k
 rw [Bool.eq_iff_iff,free_iff hO hI,Bool.and_eq_true,List.all_eq_true]
 unfold holdsN
 rw [decide_eq_true_iff]
 have hcn:∀ l,l<N.length→(lnAt N l).src=a.k→canF N P a l=false:=fun l hl hd=>by
  rw [Bool.eq_false_iff]
  intro hc
  exact hA l hl (hd.trans ((can_iff hO hI hl).1 hc).1.symm)
 refine and_congr (by omega) ⟨fun h l hl=>?_,fun h l hl hd=>?_⟩
 ·rw [List.mem_range] at hl
  by_cases hd:(lnAt N l).src=a.k
  ·obtain ⟨h1,h2⟩:=h l hl hd
   unfold untT untN knownT knownN
   rw [hcn l hl hd,hd]
   simp only [decide_true,Bool.not_true,Bool.false_or,Bool.not_false,Bool.and_true,Bool.and_eq_true,Bool.not_eq_true',decide_eq_false_iff_not,decide_eq_true_eq,Bool.false_eq_true,if_false]
   refine ⟨by omega,?_⟩
   rcases h2 with h2 | h2
   ·exact h2
   ·rw [known_zero l P (fun x hx=>(hO.took x hx).1) h2];exact h0
  ·simp [hd]
 ·have h1:=h l (List.mem_range.2 hl)
  have hs:=hI.sent l hl
  unfold untT untN knownT knownN at h1
  rw [hcn l hl hd,hd] at h1
  simp only [decide_true,Bool.not_true,Bool.false_or,Bool.not_false,Bool.and_true,Bool.and_eq_true,Bool.not_eq_true',decide_eq_false_iff_not,decide_eq_true_eq,Bool.false_eq_true,if_false] at h1
  rw [hd] at hs
  exact ⟨by omega,.inl h1.2⟩
variable (V:Int→Nat→List Int)
theorem full_next {l:Nat} (hl:l<N.length):fullN N (P ++ [(a,wakeF N V P a)]) l=if (wakeF N V P a).did=1∧(lnAt N l).dst=a.k then false else fullT N P a l:=by
 have hs:=hI.slot l hl
 unfold fullN
 rw [cnt_next,tk_next N V P a hl]
 by_cases h:a.k=(lnAt N l).dst∧(wakeF N V P a).did=1
 ·rw [if_pos h,show (if (wakeF N V P a).did=1∧(lnAt N l).dst=a.k then false else fullT N P a l)=false from if_pos ⟨h.2,h.1.symm⟩,decide_eq_false_iff_not]
  have hr:readyF N P a=true:=by
   rcases did_cases N V P a with ⟨hr,_⟩ | ⟨_,_,hd⟩ | ⟨_,_,hd⟩
   ·exact hr
   ·rw [h.2] at hd;cases hd
   ·rw [h.2] at hd;cases hd
  have:=((ready_iff hO hI).1 hr).2 l hl h.1.symm
  rw [← h.1];omega
 ·rw [if_neg h,show (if (wakeF N V P a).did=1∧(lnAt N l).dst=a.k then false else fullT N P a l)=fullT N P a l from if_neg (fun e=>h ⟨e.2.symm,e.1⟩)]
  unfold fullT fullN
  by_cases hc:canF N P a l=true
  ·obtain ⟨h1,_,_,h4⟩:=(can_iff hO hI hl).1 hc
   rw [if_pos hc,hc,Bool.or_true,decide_eq_true_iff,h1];omega
  ·rw [if_neg hc]
   rw [Bool.not_eq_true] at hc
   rw [hc,Bool.or_false,Nat.add_zero,Nat.add_zero]
omit hO hI in
theorem comes_next (l:Nat):comesN N (P ++ [(a,wakeF N V P a)]) l=if (wakeF N V P a).did=2∧(lnAt N l).src=a.k then a.a+a.c else comesN N P l:=by
 unfold comesN
 rw [comesF_app]
 simp only [comesF]
 have e:isD (lnAt N l).src 2 (a,wakeF N V P a)=decide ((wakeF N V P a).did=2∧(lnAt N l).src=a.k):=by
  unfold isD
  show (decide (a.k=(lnAt N l).src) && decide ((wakeF N V P a).did=2))=_
  rw [Bool.and_comm,← Bool.decide_and]
  congr 1
  rw [eq_comm (a:=a.k)]
 rw [e]
 simp only [decide_eq_true_eq]
 rfl
omit hO hI in
theorem known_next {l:Nat} (hl:l<N.length):knownN (P ++ [(a,wakeF N V P a)]) l=knownT N P a l:=by
 unfold knownN knownT
 rw [knownF_app]
 simp only [knownF]
 have e:(l∈(wakeF N V P a).took)↔canF N P a l=true:=by
  show l∈tookF N P a↔_
  rw [took_mem]
  exact ⟨fun h=>h.2,fun h=>⟨hl,h⟩⟩
 by_cases hc:canF N P a l=true
 ·rw [if_pos (e.2 hc),if_pos hc];rfl
 ·rw [if_neg (fun h=>hc (e.1 h)),if_neg hc];rfl
theorem unt_next (hA:Apart N) {l:Nat} (hl:l<N.length):untN N (P ++ [(a,wakeF N V P a)]) l=if (wakeF N V P a).did=2∧(lnAt N l).src=a.k then true else untT N P a l:=by
 have hs:=hI.sent l hl
 unfold untN
 rw [cnt_next,tk_next N V P a hl]
 by_cases h:a.k=(lnAt N l).src∧(wakeF N V P a).did=2
 ·rw [if_pos h,show (if (wakeF N V P a).did=2∧(lnAt N l).src=a.k then true else untT N P a l)=true from if_pos ⟨h.2,h.1.symm⟩,decide_eq_true_iff]
  have hc:¬ canF N P a l=true:=fun hc=>hA l hl (h.1.symm.trans ((can_iff hO hI hl).1 hc).1.symm)
  rw [if_neg hc];omega
 ·rw [if_neg h,show (if (wakeF N V P a).did=2∧(lnAt N l).src=a.k then true else untT N P a l)=untT N P a l from if_neg (fun e=>h ⟨e.2.symm,e.1⟩)]
  unfold untT untN
  by_cases hc:canF N P a l=true
  ·obtain ⟨_,h2,_,_⟩:=(can_iff hO hI hl).1 hc
   rw [if_pos hc,hc,Bool.not_true,Bool.and_false,decide_eq_false_iff_not];omega
  ·rw [if_neg hc]
   rw [Bool.not_eq_true] at hc
   rw [hc,Bool.not_false,Bool.and_true,Nat.add_zero,Nat.add_zero]
omit hO in
theorem holds_next (pl:Int):holdsN (P ++ [(a,wakeF N V P a)]) pl=if pl=a.k∧(wakeF N V P a).did=1 then true else if pl=a.k∧(wakeF N V P a).did=2 then false else holdsN P pl:=by
 have ht:=hI.turn pl
 unfold holdsN
 rw [cnt_next,cnt_next]
 simp only [eq_comm (a:=pl)]
 by_cases h1:a.k=pl∧(wakeF N V P a).did=1
 ·have h2:¬ (a.k=pl∧(wakeF N V P a).did=2):=fun e=>by rw [h1.2] at e;exact absurd e.2 (by decide)
  simp only [if_pos h1,if_neg h2,decide_eq_true_eq];omega
 ·by_cases h2:a.k=pl∧(wakeF N V P a).did=2
  ·simp only [if_neg h1,if_pos h2,decide_eq_false_iff_not];omega
  ·simp only [if_neg h1,if_neg h2,Nat.add_zero]
end
theorem full_start (N:List LnF) (l:Nat):fullN N [] l=(lnAt N l).late:=by
 unfold fullN lateN
 cases (lnAt N l).late <;> simp [cntF,tkF]
end Go.Proofs.YtmndgoapkmhglabGreat
namespace Go.Proofs.YtmndgoapkmhglabGreat
theorem held_of {s:ByteArray}{p:PS} (_hs:s.size≤1500) (hp:parseF s = .ok p) {L:List Dl} (hG:RGood s L):p.decls=declsD (toks s) L 0 0 0∧boundN p=(nodesD (toks s) L 0).map (bindF p.decls)∧Both2 (toks s) L p.decls (boundN p):=by
 obtain ⟨p',hp',h1,h2⟩:=hG.parse
 rw [hp] at hp'
 cases hp'
 have hb:boundN p=(nodesD (toks s) L 0).map (bindF p.decls):=by unfold boundN;rw [h2]
 refine ⟨h1,hb,?_⟩
 rw [hb,h1]
 exact both2 (toks_F s) (toks_end s) L hG.sp hG.names
theorem links_held {s:ByteArray}{p:PS} (hs:s.size≤1500) (hp:parseF s = .ok p) {L:List Dl} (hG:RGood s L):linksF p.decls (boundN p)=routesR (toks s) L:=by
 obtain ⟨h1,h2,hB⟩:=held_of hs hp hG
 exact links_eq (toks_F s) hB.N hB.sp hB.decl hB.dx (fun a d x hd hx hk=>by rw [h1] at hd;have:=declsD_num (toks s) L 0 0 0 a d x hd hx hk;rw [this,Nat.zero_add])
theorem text_le {s:ByteArray} (h:(textF s).1=0):s.size≤1500:=by
 by_cases hs:1500<s.size
 ·unfold textF at h;rw [if_pos hs] at h;cases h
 ·omega
theorem places_held {s:ByteArray}{p:PS} (hs:s.size≤1500) (hp:parseF s = .ok p) {L:List Dl} (hG:RGood s L):(eqsF p.decls).map Dc.place=plR (toks s) L:=by
 obtain ⟨_,_,hB⟩:=held_of hs hp hG
 have hE:All2 (DX (toks s) (bindF p.decls) (boundN p)) (eqsF p.decls) (eqL L):=All2.filter (fun d x h=>by rw [h.kind]) hB.dx
 have hk:∀ x∈eqL L,x.kind≠0:=fun x hx=>by have:=(List.mem_filter.1 hx).2;simpa using this
 have key:∀ (l:List Dc) (m:List Dl),(∀ x∈m,x.kind≠0)→All2 (DX (toks s) (bindF p.decls) (boundN p)) l m→l.map Dc.place=m.map (placeD (toks s)):=by
  intro l
  induction l with
  | nil=>intro m _ h;cases m with
   | nil=>rfl
   | cons x m=>exact h.elim
  | cons d l ih=>intro m hm h;cases m with
   | nil=>exact h.elim
   | cons x m=>rw [List.map_cons,List.map_cons,h.1.place (hm x (by simp)),ih m (fun y hy=>hm y (List.mem_cons_of_mem _ hy)) h.2]
 exact key _ _ hk hE
end Go.Proofs.YtmndgoapkmhglabGreat
namespace Go.Proofs.YtmndgoapkmhglabGreat
open Go.RowKit
theorem opCells_len (l:List OpF):(opCells l).length=l.length * 4:=by
 induction l with
 | nil=>rfl
 | cons o r ih=>simp only [opCells,List.flatMap_cons,List.length_append,List.length_cons,List.length_nil] at *;omega
theorem run_copy_wide {P:Program} (w:World) (dT sT ty elem:TypeId) (g dLen dCap:Nat) (a:Addr) (sLen sCap size:Nat) (cs:List Value)
  (hu:P.underlying dT=some (.slice elem)) (hs:(P.info? elem).map (·.size)=some size) (hn:cs.length=Nat.min sLen dLen * size)
  (hsrc:∀ j v,cs[j]? = some v→w.cell? (a.add j)=some v) (hc:∀ j,j<cs.length→(w.cell? ⟨g,0+j,none⟩).isSome=true) (hf:∀ j,j<cs.length→w.frozen? ⟨g,0+j,none⟩=false) (h1:∀ v∈cs,v.oneCell'=true) :
  (Builtin.copy_ #[dT,sT] ty #[.slice (some ⟨g,0,none⟩) dLen dCap,.slice (some a) sLen sCap]).run P w = .ok (goInt (Nat.min sLen dLen)) (w.setCells g 0 cs):=by
 have hfc:=run_firstCells_some (P:=P) w size (Nat.min sLen dLen) a sLen sCap cs hn hsrc
 have hst:=run_storeCells_cells (P:=P) g 0 cs 0 w (by simpa using hc) (by simpa using hf) h1
 cases hq:P.info? elem with
 | none=>simp [hq] at hs
 | some i=>
  have hi:i.size=size:=by simpa [hq] using hs
  simp [Builtin.copy_,run_underlying hu,Builtin.lenOf,sizeOf,typeInfo,hq,hi,hfc,hst]
theorem run_copy_noth {P:Program} (w:World) (dT sT ty elem:TypeId) (d a:Option Addr) (dLen dCap sLen sCap size:Nat) (hu:P.underlying dT=some (.slice elem)) (hs:(P.info? elem).map (·.size)=some size) (hn:Nat.min sLen dLen=0) :
  (Builtin.copy_ #[dT,sT] ty #[.slice d dLen dCap,.slice a sLen sCap]).run P w = .ok (goInt 0) w:=by
 cases hq:P.info? elem with
 | none=>simp [hq] at hs
 | some i=>
  have hl:∀ (x:Addr),(loadCells x 0).run P w = .ok #[] w:=fun x=>by simpa using run_loadCells_list (P:=P) w x [] (by simp)
  cases d <;> cases a <;> simp [Builtin.copy_,run_underlying hu,Builtin.lenOf,Builtin.firstCells,sizeOf,typeInfo,hq,hn,storeCells,hl]
theorem opCells_get (l:List OpF) (i:Nat) (hi:i<l.length):(opCells l)[i * 4]? = some (.int .i64 l[i].k)∧(opCells l)[i * 4+1]? = some (.int .i64 l[i].a)∧(opCells l)[i * 4+2]? = some (.int .i64 l[i].b)∧(opCells l)[i * 4+3]? = some (.int .i64 l[i].c):=by
 have e:=fun j hj=>flat_get (fun o:OpF=>[Value.int .i64 o.k,.int .i64 o.a,.int .i64 o.b,.int .i64 o.c]) 4 (fun _=>rfl) l i j hi hj
 exact ⟨e 0 (by omega),e 1 (by omega),e 2 (by omega),e 3 (by omega)⟩
theorem ops_src {w:World}{A:Option Addr}{C:Nat}{ops:List OpF} (h:OpsAt w (.slice A ops.length C) ops) (hp:0<ops.length):∃ b o,A=some ⟨b,o,none⟩∧b<w.heap.size∧∀ j v,(opCells ops)[j]? = some v→w.cell? ((⟨b,o,none⟩:Addr).add j)=some v:=by
 obtain ⟨A',C',he,_,hc⟩:=h
 simp only [Value.slice.injEq,true_and] at he
 obtain ⟨rfl,rfl⟩:=he
 obtain ⟨b,o,h1,h2,h3⟩:=hc hp
 refine ⟨b,o,h1,h2,fun j v hv=>?_⟩
 have hj:j<ops.length * 4:=by have:=(List.getElem?_eq_some_iff.1 hv).1;rwa [opCells_len] at this
 obtain ⟨i,r,hr,rfl⟩:∃ i r,r<4∧j=i * 4+r:=⟨j / 4,j % 4,by omega,by omega⟩
 obtain ⟨k0,k1,k2,k3⟩:=h3 i (by omega)
 obtain ⟨g0,g1,g2,g3⟩:=opCells_get ops i (by omega)
 rw [Addr.add_lit]
 have hcs:r=0∨r=1∨r=2∨r=3:=by omega
 rcases hcs with rfl | rfl | rfl | rfl
 ·rw [Nat.add_zero,g0] at hv;cases hv;rw [Nat.add_zero];exact k0
 ·rw [g1] at hv;cases hv;rw [← Nat.add_assoc];exact k1
 ·rw [g2] at hv;cases hv;rw [← Nat.add_assoc];exact k2
 ·rw [g3] at hv;cases hv;rw [← Nat.add_assoc];exact k3
theorem below_setCells {B g:Nat}{w w':World} (hb:Below B w w') (hg:B≤g):∀ (cs:List Value) (k:Nat),Below B w (w'.setCells g k cs):=by
 intro cs
 induction cs generalizing w' with
 | nil=>intro k;simpa [World.setCells] using hb
 | cons v r ih=>intro k;simpa [World.setCells] using ih (hb.setCell hg v) (k+1)
end Go.Proofs.YtmndgoapkmhglabGreat
namespace Go.Proofs.YtmndgoapkmhglabGreat
open Go.RowKit
attribute [local go_sem ↓] Go.wp_at_zero Go.wp_at_succ
theorem num_of (n:Int) (w:World) :
  Calls Tryz.prog 8 #[.int .i64 n] w fun e w'=>e = .returned (.int .i64 n)∧w=w':=by
 go_enter Tryz.func8,Tryz.ntmps8
 go_wp2
 go_ret
 exact ⟨rfl,rfl⟩
end Go.Proofs.YtmndgoapkmhglabGreat
namespace Go.Proofs.YtmndgoapkmhglabGreat
open Go.RowKit
structure EvG (B:Nat) (w:World) (v:Value) (E:List EvF) (TV VV:Nat→Value):Prop where
 row:w.ownsRow B 38 6 v E.length (evCells E TV VV)
 took:∀ i,(h:i<E.length)→w.ownsRow B 3 1 (TV i) E[i].took.length (pCells E[i].took)
 vals:∀ i,(h:i<E.length)→w.ownsRow B 3 1 (VV i) E[i].vals.length (iCells E[i].vals)
 neT:∀ i,i<E.length→∀ b,(TV i).ownBlock=some b→v.ownBlock≠some b
 neV:∀ i,i<E.length→∀ b,(VV i).ownBlock=some b→v.ownBlock≠some b
def upG (T:Nat→Value) (i:Nat) (v:Value) (j:Nat):Value:=if j=i then v else T j
theorem evCells_snoc (E:List EvF) (TV VV:Nat→Value) (e:EvF) (vT vV:Value):evCells (E ++ [e]) (upG TV E.length vT) (upG VV E.length vV)=evCells E TV VV ++ [.int .i64 e.k,.int .i64 e.a,.int .i64 e.did,.int .i64 e.n,vT,vV]:=by
 unfold evCells
 rw [List.length_append,List.length_singleton,List.range_succ,List.flatMap_append]
 congr 1
 ·simp only [List.flatMap_def]
  congr 1
  refine List.map_congr_left fun i hi=>?_
  have hi':=List.mem_range.1 hi
  rw [List.getElem?_append_left hi']
  unfold upG
  rw [if_neg (by omega),if_neg (by omega)]
 ·simp [upG]
theorem EvG.nil (B:Nat) (w:World) (TV VV:Nat→Value):EvG B w (.slice none 0 0) [] TV VV:=
 ⟨World.ownsRow_nil _ _ _ _,fun i h=>by simp at h,fun i h=>by simp at h,fun i h=>by simp at h,fun i h=>by simp at h⟩
theorem EvG.blk {B:Nat}{w w':World}{v:Value}{E:List EvF}{TV VV:Nat→Value} (h:EvG B w v E TV VV) (hb:∀ k,B≤k→k<w.heap.size→w'.heap[k]? = w.heap[k]?):EvG B w' v E TV VV:=
 ⟨own_same h.row (fun k hk=>hb k (h.row.lt k hk).1 (h.row.lt k hk).2),fun i hi=>own_same (h.took i hi) (fun k hk=>hb k ((h.took i hi).lt k hk).1 ((h.took i hi).lt k hk).2),fun i hi=>own_same (h.vals i hi) (fun k hk=>hb k ((h.vals i hi).lt k hk).1 ((h.vals i hi).lt k hk).2),h.neT,h.neV⟩
theorem EvG.below {B:Nat}{w w':World}{v:Value}{E:List EvF}{TV VV:Nat→Value} (h:EvG B w v E TV VV) (hb:Below w.heap.size w w'):EvG B w' v E TV VV:=h.blk fun k _ hk=>hb.block k hk
theorem EvG.snoc {B:Nat}{w w1:World}{v v':Value}{E:List EvF}{TV VV:Nat→Value} (h:EvG B w v E TV VV) {e:EvF}{vT vV:Value} (hT:w.ownsRow B 3 1 vT e.took.length (pCells e.took)) (hV:w.ownsRow B 3 1 vV e.vals.length (iCells e.vals))
  (hnT:∀ b,vT.ownBlock=some b→v.ownBlock≠some b) (hnV:∀ b,vV.ownBlock=some b→v.ownBlock≠some b) (hg:w.grownBy w1 v.ownBlock) (hrow:w1.ownsRow B 38 6 v' (E.length+1) (evCells E TV VV ++ [.int .i64 e.k,.int .i64 e.a,.int .i64 e.did,.int .i64 e.n,vT,vV])) (hv':∀ b,v'.ownBlock=some b→v.ownBlock=some b∨w.heap.size≤b) :
  EvG B w1 v' (E ++ [e]) (upG TV E.length vT) (upG VV E.length vV):=by
 have keep:∀ {x:Value} {n:Nat} {xs:List Value},w.ownsRow B 3 1 x n xs→(∀ b,x.ownBlock=some b→v.ownBlock≠some b)→w1.ownsRow B 3 1 x n xs:=fun hx hne=>own_same hx (fun k hk=>hg.block k (hx.lt k hk).2 (fun e=>hne k hk e.symm))
 have ne':∀ {x:Value} {n:Nat} {xs:List Value},w.ownsRow B 3 1 x n xs→(∀ b,x.ownBlock=some b→v.ownBlock≠some b)→∀ b,x.ownBlock=some b→v'.ownBlock≠some b:=fun hx hne b hb e=>by
  rcases hv' b e with h1 | h1
  ·exact hne b hb h1
  ·have:=(hx.lt b hb).2;omega
 refine ⟨?_,fun i hi=>?_,fun i hi=>?_,fun i hi b hb=>?_,fun i hi b hb=>?_⟩
 ·rw [evCells_snoc,List.length_append,List.length_singleton];exact hrow
 ·rw [List.length_append,List.length_singleton] at hi
  by_cases ei:i=E.length
  ·subst ei
   simp only [upG,if_pos,List.getElem_append_right (Nat.le_refl _),Nat.sub_self,List.getElem_singleton]
   exact keep hT hnT
  ·have hi':i<E.length:=by omega
   rw [List.getElem_append_left hi']
   unfold upG
   rw [if_neg ei]
   exact keep (h.took i hi') (h.neT i hi')
 ·rw [List.length_append,List.length_singleton] at hi
  by_cases ei:i=E.length
  ·subst ei
   simp only [upG,if_pos,List.getElem_append_right (Nat.le_refl _),Nat.sub_self,List.getElem_singleton]
   exact keep hV hnV
  ·have hi':i<E.length:=by omega
   rw [List.getElem_append_left hi']
   unfold upG
   rw [if_neg ei]
   exact keep (h.vals i hi') (h.neV i hi')
 ·rw [List.length_append,List.length_singleton] at hi
  unfold upG at hb
  by_cases ei:i=E.length
  ·rw [if_pos ei] at hb;exact ne' hT hnT b hb
  ·rw [if_neg ei] at hb;exact ne' (h.took i (by omega)) (h.neT i (by omega)) b hb
 ·rw [List.length_append,List.length_singleton] at hi
  unfold upG at hb
  by_cases ei:i=E.length
  ·rw [if_pos ei] at hb;exact ne' hV hnV b hb
  ·rw [if_neg ei] at hb;exact ne' (h.vals i (by omega)) (h.neV i (by omega)) b hb
theorem EvG.cells {B:Nat}{w w':World}{v:Value}{E:List EvF}{TV VV:Nat→Value} (h:EvG B w v E TV VV) (hb:Below w.heap.size w w') {i:Nat} (hi:i<E.length):∃ g c,v = .slice (some ⟨g,0,none⟩) E.length c∧g<w.heap.size∧
  w'.cell? ⟨g,i * 6,none⟩=some (.int .i64 E[i].k)∧w'.cell? ⟨g,i * 6+1,none⟩=some (.int .i64 E[i].a)∧w'.cell? ⟨g,i * 6+2,none⟩=some (.int .i64 E[i].did)∧w'.cell? ⟨g,i * 6+3,none⟩=some (.int .i64 E[i].n)∧w'.cell? ⟨g,i * 6+4,none⟩=some (TV i)∧w'.cell? ⟨g,i * 6+5,none⟩=some (VV i):=by
 obtain ⟨a,c,hv,hsh⟩:=own_shape h.row
 obtain ⟨g,rfl,_,hg⟩:=hsh (by omega)
 have hc:∀ j,j<6→w'.cell? ⟨g,i * 6+j,none⟩=([Value.int .i64 E[i].k,.int .i64 E[i].a,.int .i64 E[i].did,.int .i64 E[i].n,TV i,VV i]:List Value)[j]?:=fun j hj=>by
  have hr:=h.row
  rw [hv] at hr
  rw [hb.cell (p:=⟨g,i * 6+j,none⟩) hg,hr.cellAt (i * 6+j) (by omega)]
  unfold evCells
  rw [flat_get (fun i=>[Value.int .i64 ((E[i]?.map EvF.k).getD 0),.int .i64 ((E[i]?.map EvF.a).getD 0),.int .i64 ((E[i]?.map EvF.did).getD 0),.int .i64 ((E[i]?.map EvF.n).getD 0),TV i,VV i]) 6 (fun _=>rfl) (List.range E.length) i j (by simpa using hi) hj]
  rw [List.getElem_range,List.getElem?_eq_getElem hi]
  rfl
 exact ⟨g,c,hv,hg,hc 0 (by omega),hc 1 (by omega),hc 2 (by omega),hc 3 (by omega),hc 4 (by omega),hc 5 (by omega)⟩
def PstAt (w:World) (hb q:Nat) (vS vE vR:Value):Prop:=w.rowIs hb 66 4 (fun i=>if i=0 then .pointer (some ⟨q,0,none⟩) else if i=1 then vS else if i=2 then vE else vR)
theorem PstAt.cells {w:World}{hb q:Nat}{vS vE vR:Value} (h:PstAt w hb q vS vE vR):w.cell? ⟨hb,0,none⟩=some (.pointer (some ⟨q,0,none⟩))∧w.cell? ⟨hb,1,none⟩=some vS∧w.cell? ⟨hb,2,none⟩=some vE∧w.cell? ⟨hb,3,none⟩=some vR:=
 ⟨h.cell (i:=0) (by omega),h.cell (i:=1) (by omega),h.cell (i:=2) (by omega),h.cell (i:=3) (by omega)⟩
theorem PstAt.below {w w':World}{hb q:Nat}{vS vE vR:Value} (h:PstAt w hb q vS vE vR) (hB:Below w.heap.size w w'):PstAt w' hb q vS vE vR:=World.rowIs.of_block h (hB.block _ (World.rowIs.lt h))
structure Pst (w:World) (hb q:Nat) (sc:List OpF) (vS vE vR:Value) (P:PastF) (B:Nat) (TV VV:Nat→Value):Prop where
 at':PstAt w hb q vS vE vR
 ops:OpsAt w vS sc
 evs:EvG B w vE (P.map Prod.snd) TV VV
 same:P.map Prod.fst=sc.take P.length
 le:P.length≤sc.length
 few:sc.length≤400
 tk:∀ x∈P,x.2.took.length≤6100
 rng:∀ x∈P,(0≤x.2.a∧x.2.a≤1099511627776)∧(0≤x.1.b∧x.1.b≤1099511627776)∧(0≤x.1.c∧x.1.c≤1099511627776)
theorem Pst.below {w w':World}{hb q:Nat}{sc:List OpF}{vS vE vR:Value}{P:PastF}{B:Nat}{TV VV:Nat→Value} (h:Pst w hb q sc vS vE vR P B TV VV) (hB:Below w.heap.size w w'):Pst w' hb q sc vS vE vR P B TV VV:=
 ⟨h.at'.below hB,h.ops.below hB,h.evs.below hB,h.same,h.le,h.few,h.tk,h.rng⟩
theorem Pst.act {w:World}{hb q:Nat}{sc:List OpF}{vS vE vR:Value}{P:PastF}{B:Nat}{TV VV:Nat→Value} (h:Pst w hb q sc vS vE vR P B TV VV) {i:Nat} (hi:i<P.length):∃ h':i<sc.length,sc[i]=P[i].1:=by
 have h':i<sc.length:=Nat.lt_of_lt_of_le hi h.le
 refine ⟨h',?_⟩
 have e:=congrArg (fun l=>l[i]?) h.same
 simp only [List.getElem?_map,List.getElem?_eq_getElem hi,Option.map_some,List.getElem?_take,if_pos hi,List.getElem?_eq_getElem h'] at e
 exact (Option.some.inj e).symm
theorem didF_take (P:PastF) (pl what now:Int) (data:Bool) {i:Nat} (hi:i<P.length):didF (P.take (i+1)) pl what now data=didF (P.take i) pl what now data+(if isD pl what P[i] && decide (P[i].2.a+(if data then P[i].1.c else 0)≤now) then 1 else 0):=by
 rw [List.take_succ_eq_append_getElem hi,didF_snoc]
theorem takenF_take (now:Int) (l:Nat) (ack:Bool) (P:PastF) {i:Nat} (hi:i<P.length):takenF now l ack (P.take (i+1))=takenF now l ack (P.take i)+(if P[i].2.a+(if ack then P[i].1.b else 0)≤now then P[i].2.took.count l else 0):=by
 rw [List.take_succ_eq_append_getElem hi,takenF_app]
 rfl
theorem takenF_le (now:Int) (l:Nat) (ack:Bool):∀ (P:PastF),(∀ x∈P,x.2.took.length≤6100)→takenF now l ack P≤P.length * 6100:=by
 intro P
 induction P with
 | nil=>intro _;simp [takenF]
 | cons x P ih=>
  intro h
  have h1:=ih (fun y hy=>h y (List.mem_cons_of_mem _ hy))
  have h2:=h x (by simp)
  have h3:=List.count_le_length (a:=l) (l:=x.2.took)
  simp only [takenF,List.length_cons]
  by_cases hc:x.2.a+(if ack then x.1.b else 0)≤now
  ·rw [if_pos hc];omega
  ·rw [if_neg hc];omega
theorem didF_len (P:PastF) (pl what now:Int) (data:Bool):didF P pl what now data≤P.length:=List.length_filter_le _ _
end Go.Proofs.YtmndgoapkmhglabGreat
namespace Go.Proofs.YtmndgoapkmhglabGreat
open Go.ChangeShapes Go.WideShapes Go.RowKit Go.Deep
theorem Tryz.cellsInts:Tryz.prog.cellsOf 36=1:=by kernel_rfl
theorem Tryz.cellsInt:Tryz.prog.cellsOf 3=1:=by kernel_rfl
theorem Tryz.bytesInts:Tryz.prog.bytesOf 36=24:=by kernel_rfl
theorem Tryz.bytesInt:Tryz.prog.bytesOf 3=8:=by kernel_rfl
theorem Tryz.laidOut:laidOutB Tryz.prog=true:=by kernel_rfl
theorem plain_add (b o r:Nat):(⟨b,o,none⟩:Addr).add r=⟨b,o+r,none⟩:=Addr.add_lit b o r
theorem spot_none {w:World}{a:Addr}{v:Value} (h:w.cell? (a.add 0)=some v):a.spot=none:=by
 obtain ⟨b,o,sp⟩:=a
 simpa [Addr.add] using World.cell?_spot h
theorem weights_all {H:Type}{P:Program}{e:TypeId}{d:DataW H}:∀ (l:List (DataW H)),d∈l→∀ n∈d.weights P e,n∈DataW.weightsAll P e l:=by
 intro l
 induction l with
 | nil=>intro h;simp at h
 | cons x r ih=>
  intro h n hn
  simp only [DataW.weightsAll,List.mem_append]
  rcases List.mem_cons.1 h with rfl | h
  ·exact .inl hn
  ·exact .inr (ih h n hn)
set_option maxRecDepth 100000 in
theorem open_lists {H:Type}{enc:TypeId × Value→H}{W:World}{A0:Option Addr}{len0 cap0:Nat}{d:DataW H}{ps:List MemPlace} (h:DataW.Trod enc Tryz.prog W 0 (fun _=>true) true 22 (.slice A0 len0 cap0) d ps)
  (hw:∀ n∈d.weights Tryz.prog 22,n≤reachBytes) :
  ∃ (ins:List (List Int)) (AS:Nat→Option Addr) (CS:Nat→Nat),len0=ins.length∧ArgL W A0 cap0 ins AS CS∧∀ l∈ins,∀ x∈l,(Lit.int .i64 x).wf=true:=by
 obtain ⟨fuel,hf⟩:=h
 have hrb:reachBytes=140737488351232:=rfl
 rcases open_int_rows Tryz.underlying22 Tryz.underlying36 Tryz.underlying3 Tryz.cellsInts Tryz.cellsInt hf with ⟨hcs,hx⟩ | ⟨a,len,cap,A,L,C,Z,hcs,_,hl,hm,hx,hrows⟩
 ·simp [Value.cells] at hcs
  obtain ⟨rfl,rfl,rfl⟩:=hcs
  exact ⟨[],fun _=>none,fun _=>0,rfl,⟨by simp,fun _=>rfl,fun hp=>by simp at hp,fun r hr=>by simp at hr,fun r hr=>by simp at hr⟩,fun l hl=>by simp at hl⟩
 ·simp [Value.cells] at hcs
  obtain ⟨rfl,rfl,rfl⟩:=hcs
  simp only [Prod.mk.injEq] at hx
  obtain ⟨rfl,rfl⟩:=hx
  have hsz:(len0+(cap0 - len0)) * 24≤reachBytes:=by
   have:=hw ((len0+(cap0 - len0)) * 24) (by simp [DataW.weights,Tryz.underlying22,Tryz.bytesInts])
   exact this
  have hrow:∀ r,r<len0→(A r≠none→C r * 8≤reachBytes):=fun r hr hne=>by
   obtain ⟨_,h1,_,h2,_,h3,_⟩:=hrows r (by omega)
   refine hw _ ?_
   simp only [DataW.weights,Tryz.underlying22,List.mem_cons,List.mem_append]
   refine .inr (.inl (weights_all (d:=intRow .i64 (A r) (L r) (Z r)) _ (List.mem_map.2 ⟨r,List.mem_range.2 hr,rfl⟩) _ ?_))
   cases hA:A r with
   | none=>exact absurd hA hne
   | some a'=>
    simp only [intRow,DataW.weights,Tryz.underlying36,List.mem_cons]
    refine .inl ?_
    rw [Tryz.bytesInt]
    simp [lits]
    omega
  have hLl:∀ r,r<len0→((Z r).take (L r)).length=L r:=fun r hr=>by
   obtain ⟨_,h1,_,h2,_⟩:=hrows r (by omega)
   rw [List.length_take];omega
  have hget:∀ r,(hr:r<((List.range len0).map fun r=>(Z r).take (L r)).length)→((List.range len0).map fun r=>(Z r).take (L r))[r]=(Z r).take (L r):=fun r hr=>by simp
  refine ⟨(List.range len0).map fun r=>(Z r).take (L r),A,C,by simp,⟨by simp;omega,fun h=>(by cases h),fun hp=>?_,fun r hr=>?_,fun r hr=>?_⟩,fun l hl x hx=>?_⟩
  ·simp at hp
   obtain ⟨b,o,sp⟩:=a
   have hs:sp=none:=spot_none (hrows 0 (by omega)).1
   subst hs
   refine ⟨b,o,rfl,?_,fun r hr=>?_⟩
   ·have:=World.block_lt_of_cell? _ _ (hrows 0 (by omega)).1
    simpa [Addr.add] using this
   ·have hr':r<len0:=by simpa using hr
    rw [hget r hr,hLl r hr',← plain_add]
    exact (hrows r (by omega)).1
  ·have hr':r<len0:=by simpa using hr
   obtain ⟨_,h1,_,h2,_,h3,h4⟩:=hrows r (by omega)
   rw [hget r hr]
   have hCr:A r=none∨C r * 8≤reachBytes:=by
    by_cases hA:A r=none
    ·exact .inl hA
    ·exact .inr (hrow r hr' hA)
   refine ⟨⟨A r,C r,by rw [hLl r hr'],?_,fun hp=>?_⟩,fun hA=>?_,?_⟩
   ·rw [hLl r hr']
    rcases hCr with hA | hC
    ·have:=h3 hA;omega
    ·omega
   ·rw [hLl r hr'] at hp
    cases hA:A r with
    | none=>have:=h3 hA;omega
    | some a'=>
     obtain ⟨_,hcell⟩:=h4 a' hA
     obtain ⟨b,o,sp⟩:=a'
     have hs:sp=none:=spot_none (hcell 0 (by omega))
     subst hs
     refine ⟨b,o,rfl,?_,fun c hc=>?_⟩
     ·have:=World.block_lt_of_cell? _ _ (hcell 0 (by omega))
      simpa [Addr.add] using this
     ·rw [hLl r hr'] at hc
      rw [← plain_add,hcell c (by omega)]
      simp [List.getElem_take,List.getD_eq_getElem?_getD,List.getElem?_eq_getElem (show c<(Z r).length by omega)]
   ·have:=h3 hA
    rw [List.eq_nil_iff_length_eq_zero,hLl r hr']
    omega
   ·rw [hLl r hr']
    rcases hCr with hA | hC
    ·have:=h3 hA;omega
    ·omega
  ·have hr':r<len0:=by simpa using hr
   rw [hget r hr,hLl r hr']
   exact (hrows r (by omega)).2.1
  ·obtain ⟨r,hr,rfl⟩:=List.mem_map.1 hl
   obtain ⟨_,_,_,_,h5,_⟩:=hrows r (by have:=List.mem_range.1 hr;omega)
   exact h5 x (List.mem_of_mem_take hx)
section
variable {H:Type} {enc:TypeId × Value→H} {P:Program} {w:World} {base:Nat} {spare:Nat→Bool} {held:Bool}
theorem trod_four {t t0 t1 t2 t3:TypeId}{fs:Array Field}{fuel:Nat}{cs:List Value}{x:DataW H × List MemPlace} (hu:P.underlying t=some (.struct fs)) (hf:fs.toList.map (fun f=>(f.type,f.offset))=[(t0,0),(t1,1),(t2,2),(t3,3)]) (hc:P.cellsOf t=4)
  (c0:P.cellsOf t0=1) (c1:P.cellsOf t1=1) (c2:P.cellsOf t2=1) (c3:P.cellsOf t3=1) (h:DataW.trod enc P w base spare held fuel t cs=some x) :
  ∃ v0 v1 v2 v3 y0 y1 y2 y3 n,cs=[v0,v1,v2,v3]∧x.1 = .agg [y0.1,y1.1,y2.1,y3.1]∧DataW.trod enc P w base spare held n t0 [v0]=some y0∧DataW.trod enc P w base spare held n t1 [v1]=some y1∧DataW.trod enc P w base spare held n t2 [v2]=some y2∧DataW.trod enc P w base spare held n t3 [v3]=some y3∧
   ∀ m,(m∈y0.1.weights P t0∨m∈y1.1.weights P t1∨m∈y2.1.weights P t2∨m∈y3.1.weights P t3)→m∈x.1.weights P t:=by
 obtain ⟨xs,n,_,rfl,hl,hlen,hg⟩:=DataW.trod_struct hu h
 obtain ⟨f0,r0,q0,e0,hf⟩:=List.map_eq_cons_iff.1 hf
 obtain ⟨f1,r1,rfl,e1,hf⟩:=List.map_eq_cons_iff.1 hf
 obtain ⟨f2,r2,rfl,e2,hf⟩:=List.map_eq_cons_iff.1 hf
 obtain ⟨f3,r3,rfl,e3,hf⟩:=List.map_eq_cons_iff.1 hf
 have hr:=List.map_eq_nil_iff.1 hf
 subst hr
 simp only [Prod.mk.injEq] at e0 e1 e2 e3
 obtain ⟨rfl,o0⟩:=e0
 obtain ⟨rfl,o1⟩:=e1
 obtain ⟨rfl,o2⟩:=e2
 obtain ⟨rfl,o3⟩:=e3
 have hfs:fs = #[f0,f1,f2,f3]:=by cases fs;simp_all
 subst hfs
 rw [hc] at hl
 match xs,hlen,cs,hl with
 | [y0,y1,y2,y3],_,[v0,v1,v2,v3],_=>
  have g0:=hg 0 f0 rfl
  have g1:=hg 1 f1 rfl
  have g2:=hg 2 f2 rfl
  have g3:=hg 3 f3 rfl
  simp [o0,o1,o2,o3,c0,c1,c2,c3] at g0 g1 g2 g3
  refine ⟨v0,v1,v2,v3,y0,y1,y2,y3,n,rfl,rfl,g0,g1,g2,g3,fun m hm=>?_⟩
  simp only [List.map_cons,List.map_nil,DataW.weights,hu,DataW.weightsEach,List.mem_append,List.not_mem_nil,or_false]
  exact hm
end
end Go.Proofs.YtmndgoapkmhglabGreat
