import Derived.Test.YtecegaflhdgfaaaGreatM06StrB
import Derived.Test.YtecegaflhdgfaaaGreatM07CdP
namespace Go.Proofs.YtecegaflhdgfaaaGreat
theorem names_at {ts:List Tk}{L:List Dl} (h:namesR ts L=none) {k:Nat} (hk:k<ts.length) (hn:isNm ts k=true):(hereR L k=true→aheadR ts L k=false)∧someR ts L k=true:=by
 unfold namesR at h
 rw [Option.map_eq_none_iff,List.find?_eq_none] at h
 have:=h k (by rw [List.mem_range'_1];omega)
 unfold badNm qNm at this
 rw [hn] at this
 simp at this
 exact this
structure Right (ts:List Tk) (L:List Dl):Prop extends Eqs ts L where
 own:∀ x∈L,∀ y∈L,(nameD ts x).data.toList=(nameD ts y).data.toList→x.i=y.i
 decl:∀ k,k<ts.length→isNm ts k=true→∃ x∈L,(nameD ts x).data.toList=lAt ts k
 pw:L.Pairwise (fun x y=>x.i+x.len≤y.i)
 few:(eqL L).length≤12∧(inL L).length≤4
theorem less_none {a b:Option Nat} (h:less a b=none):a=none∧b=none:=by
 cases a <;> cases b <;> simp_all [less]
theorem right_of {ts:List Tk}{L:List Dl} (hF:∀ i,TkF (tkAt ts i)) (hs:Spell ts L 0) (hm:manyR ts L=none) (hn:namesR ts L=none) (hc:cycR ts L=none):Right ts L:=by
 have hmem:=fun x hx=>(spell_mem L 0 hs x hx).2
 have hnm:∀ x∈L,x.i+1<ts.length∧isNm ts (x.i+1)=true:=fun x hx=>by
  obtain ⟨h1,h2⟩:=hmem x hx
  have:=x.len_pos
  refine ⟨by omega,?_⟩
  unfold isNm
  rcases h2 with ⟨_,_,h,_⟩ | ⟨_,h,_⟩ <;> rw [h] <;> rfl
 have hown:∀ x∈L,∀ y∈L,(nameD ts x).data.toList=(nameD ts y).data.toList→¬ x.i<y.i:=fun x hx y hy he hlt=>by
  obtain ⟨h1,h2⟩:=hnm y hy
  have h3:=(names_at hn h1 h2).1 (by unfold hereR;rw [List.any_eq_true];exact ⟨y,hy,by simp⟩)
  unfold aheadR at h3
  rw [List.any_eq_false] at h3
  refine h3 x hx ?_
  simp only [Bool.and_eq_true,beq_iff_eq,decide_eq_true_eq]
  exact ⟨he,by omega⟩
 have hmany:=less_none hm
 refine { F:=hF,sp:=fun x hx=>?_,cyc:=hc,own:=fun x hx y hy he=>?_,decl:=fun k hk h=>?_,pw:=spell_lt L 0 hs,few:=⟨?_,?_⟩ }
 ·have hm':=List.mem_filter.1 hx
  have hk:x.kind≠0:=by simpa using hm'.2
  obtain ⟨h1,h2⟩:=hmem x hm'.1
  have hl:x.len=x.t.len+6:=by unfold Dl.len;rw [if_neg hk]
  rcases h2 with ⟨h,_⟩ | ⟨_,_,_,_,_,h,_⟩
  ·exact absurd h hk
  ·exact ⟨h,by omega⟩
 ·have a:=hown x hx y hy he
  have b:=hown y hy x hx he.symm
  omega
 ·have h3:=(names_at hn hk h).2
  unfold someR at h3
  rw [List.any_eq_true] at h3
  obtain ⟨x,hx,he⟩:=h3
  exact ⟨x,hx,by simpa using he⟩
 ·have:=hmany.1
  rw [Option.map_eq_none_iff,List.getElem?_eq_none_iff] at this
  exact this
 ·have:=hmany.2
  rw [Option.map_eq_none_iff,List.getElem?_eq_none_iff] at this
  exact this
theorem nms_lt {ts:List Tk} (t:Ast) (i:Nat):∀ j∈nms ts t i,i≤j∧j<i+t.len:=by
 intro j hj
 rw [nms_nmD ts t i false] at hj
 obtain ⟨x,hx,rfl⟩:=List.mem_map.1 hj
 exact nm_in t i false x hx
theorem nms_nm {ts:List Tk}:∀ (t:Ast) (i:Nat),∀ j∈nms ts t i,isNm ts j=true:=by
 intro t
 induction t with
 | leaf=>
  intro i j h
  unfold nms at h
  split at h
  ·rename_i hk;simp at h;rw [h];unfold isNm;rw [hk];rfl
  ·simp at h
 | neg a iha=>intro i j h;exact iha _ j h
 | ite a b c iha ihb ihc=>
  intro i j h
  simp only [nms,List.mem_append] at h
  exact h.elim (iha _ j) (fun h=>h.elim (ihb _ j) (ihc _ j))
 | dly b ihb=>intro i j h;exact ihb _ j h
 | bin a b iha ihb=>
  intro i j h
  simp only [nms,List.mem_append] at h
  exact h.elim (iha _ j) (ihb _ j)
theorem ix_some {l:List Dl}{p:Dl→Bool}{x:Dl} (hx:x∈l) (hp:p x=true):∃ j,l.findIdx? p=some j:=by
 cases h:l.findIdx? p with
 | some j=>exact ⟨j,rfl⟩
 | none=>rw [List.findIdx?_eq_none_iff] at h;rw [h x hx] at hp;cases hp
theorem Right.find {ts:List Tk}{L:List Dl} (H:Right ts L) {k:Nat} (hk:k<ts.length) (hn:isNm ts k=true):(∃ i,inIx ts L (lAt ts k)=some i)∨(∃ j,eqIx ts L (lAt ts k)=some j):=by
 obtain ⟨x,hx,he⟩:=H.decl k hk hn
 have hp:nmIs ts (lAt ts k) x=true:=by unfold nmIs;rw [he];simp
 by_cases h0:x.kind=0
 ·exact .inl (ix_some (List.mem_filter.2 ⟨hx,by rw [h0];rfl⟩) hp)
 ·exact .inr (ix_some (List.mem_filter.2 ⟨hx,by simpa using h0⟩) hp)
theorem Right.same {ts:List Tk}{L:List Dl} (H:Right ts L) {i j:Nat}{x y:Dl} (hx:(eqL L)[i]? = some x) (hy:(eqL L)[j]? = some y) (he:(nameD ts x).data.toList=(nameD ts y).data.toList):i=j:=by
 have mx:x∈L:=(List.mem_filter.1 (List.mem_of_getElem? hx)).1
 have my:y∈L:=(List.mem_filter.1 (List.mem_of_getElem? hy)).1
 have hi:=H.own x mx y my he
 obtain ⟨h1,rfl⟩:=List.getElem?_eq_some_iff.1 hx
 obtain ⟨h2,rfl⟩:=List.getElem?_eq_some_iff.1 hy
 have hp:(eqL L).Pairwise (fun x y=>x.i+x.len≤y.i):=H.pw.filter _
 rw [List.pairwise_iff_getElem] at hp
 rcases Nat.lt_trichotomy i j with h | h | h
 ·have:=hp i j h1 h2 h;have:=(eqL L)[i].len_pos;omega
 ·exact h
 ·have:=hp j i h2 h1 h;have:=(eqL L)[j].len_pos;omega
def knR (ts:List Tk) (L:List Dl) (ins:List (List Int)) (R:Nat→Nat→Int) (D:Nat→Bool) (now:Nat) (w:List UInt8) (n:Nat):Int × Bool:=
 match inIx ts L w with
 | some i=>(elemF ins i n,true)
 | none=>match eqIx ts L w with
  | some j=>if decide (n<now) || D j then (R j n,true) else (0,false)
  | none=>(0,false)
structure UpTo (ts:List Tk) (L:List Dl) (ins:List (List Int)) (R:Nat→Nat→Int) (D:Nat→Bool) (now:Nat):Prop where
 old:∀ j k,j<(eqL L).length→k<now→R j k=sol ts L ins j k
 new:∀ j,j<(eqL L).length→D j=true→R j now=sol ts L ins j now
theorem inst_val {ts:List Tk}{L:List Dl}{ins:List (List Int)}{R:Nat→Nat→Int}{D:Nat→Bool}{now:Nat} (H:Right ts L) (h:UpTo ts L ins R D now) (j:Nat) (hj:j<(eqL L).length)
  (hk:(evR ts (knR ts L ins R D now) (eqL L)[j].t ((eqL L)[j].i+5) now).2=true):(evR ts (knR ts L ins R D now) (eqL L)[j].t ((eqL L)[j].i+5) now).1=sol ts L ins j now:=by
 rw [sol_eq H.toEqs j now hj]
 refine evR_val ts _ _ _ (fun w n' hn hw=>?_) hk
 unfold knR at hw ⊢
 unfold valV
 cases hi:inIx ts L w with
 | some i=>rfl
 | none=>
  simp only [hi] at hw ⊢
  cases he:eqIx ts L w with
  | none=>simp only [he] at hw;cases hw
  | some l=>
   simp only [he] at hw ⊢
   obtain ⟨z,hz,_⟩:=eqIx_some he
   have hlt:l<(eqL L).length:=(List.getElem?_eq_some_iff.1 hz).1
   split at hw
   ·rename_i hc
    rw [if_pos hc]
    show R l n'=_
    by_cases h1:n'<now
    ·exact h.old l n' hlt h1
    ·have e:n'=now:=by omega
     subst e
     have hd:D l=true:=by simpa using hc
     exact h.new l hlt hd
   ·cases hw
theorem inst_known {ts:List Tk}{L:List Dl}{ins:List (List Int)}{R:Nat→Nat→Int}{D:Nat→Bool}{now:Nat} (H:Right ts L) (j:Nat) (hj:j<(eqL L).length)
  (hd:∀ l,l<(eqL L).length→relR ts L j l=true→D l=true):(evR ts (knR ts L ins R D now) (eqL L)[j].t ((eqL L)[j].i+5) now).2=true:=by
 have hx:(eqL L)[j]? = some (eqL L)[j]:=List.getElem?_eq_getElem hj
 obtain ⟨hs,hl⟩:=H.sp (eqL L)[j] (List.getElem_mem hj)
 have hex:∀ k∈nms ts (eqL L)[j].t ((eqL L)[j].i+5),(∃ i,inIx ts L (lAt ts k)=some i)∨(∃ l,eqIx ts L (lAt ts k)=some l):=fun k hk=>by
  have:=nms_lt _ _ k hk
  exact H.find (by omega) (nms_nm _ _ k hk)
 refine evR_known ts _ _ _ (fun k hk=>?_) (fun k hk n' hn=>?_)
 ·unfold knR
  cases hi:inIx ts L (lAt ts k) with
  | some i=>rfl
  | none=>
   rcases hex k (und_nms ts _ _ k hk) with ⟨i,h⟩ | ⟨l,h⟩
   ·rw [hi] at h;cases h
   ·simp only [h]
    obtain ⟨z,hz,_⟩:=eqIx_some h
    rw [hd l (List.getElem?_eq_some_iff.1 hz).1 (rel_und H.F hx hs hl hk h)]
    simp
 ·unfold knR
  cases hi:inIx ts L (lAt ts k) with
  | some i=>rfl
  | none=>
   rcases hex k hk with ⟨i,h⟩ | ⟨l,h⟩
   ·rw [hi] at h;cases h
   ·simp only [h]
    rw [decide_eq_true hn]
    simp
structure Pass (ts:List Tk) (L:List Dl) (ins:List (List Int)) (R:Nat→Nat→Int) (D:Nat→Bool) (now p i:Nat):Prop where
 up:UpTo ts L ins R D now
 done:∀ j,j<(eqL L).length→rk ts L j<p→D j=true
 here:∀ j,j<i→j<(eqL L).length→rk ts L j≤p→D j=true
def setR (R:Nat→Nat→Int) (a b:Nat) (v:Int):Nat→Nat→Int:=fun i k=>if i=a∧k=b then v else R i k
def setD (D:Nat→Bool) (a:Nat) (v:Bool):Nat→Bool:=fun i=>if i=a then v else D i
theorem Pass.skip {ts:List Tk}{L:List Dl}{ins:List (List Int)}{R:Nat→Nat→Int}{D:Nat→Bool}{now p i:Nat} (h:Pass ts L ins R D now p i) (hd:D i=true):Pass ts L ins R D now p (i+1):=
 ⟨h.up,h.done,fun j hj hj' hr=>by
  by_cases e:j=i
  ·rw [e];exact hd
  ·exact h.here j (by omega) hj' hr⟩
theorem Pass.next {ts:List Tk}{L:List Dl}{ins:List (List Int)}{R:Nat→Nat→Int}{D:Nat→Bool}{now p i:Nat} (H:Right ts L) (h:Pass ts L ins R D now p i) (hi:i<(eqL L).length) (hd:D i=false) :
  Pass ts L ins (setR R i now (evR ts (knR ts L ins R D now) (eqL L)[i].t ((eqL L)[i].i+5) now).1) (setD D i (evR ts (knR ts L ins R D now) (eqL L)[i].t ((eqL L)[i].i+5) now).2) now p (i+1):=by
 refine ⟨⟨fun j k hj hk=>?_,fun j hj hD=>?_⟩,fun j hj hr=>?_,fun j hj hj' hr=>?_⟩
 ·unfold setR;rw [if_neg (by omega)];exact h.up.old j k hj hk
 ·unfold setD at hD
  by_cases e:j=i
  ·subst e
   rw [if_pos rfl] at hD
   unfold setR
   rw [if_pos ⟨rfl,rfl⟩]
   exact inst_val H h.up j hj hD
  ·rw [if_neg e] at hD
   unfold setR
   rw [if_neg (by omega)]
   exact h.up.new j hj hD
 ·unfold setD
  by_cases e:j=i
  ·subst e;rw [h.done j hj hr] at hd;cases hd
  ·rw [if_neg e];exact h.done j hj hr
 ·unfold setD
  by_cases e:j=i
  ·subst e
   rw [if_pos rfl]
   refine inst_known H j hj' (fun l hl hrel=>h.done l hl ?_)
   have:=rk_less H.cyc hl hrel
   omega
  ·rw [if_neg e];exact h.here j (by omega) hj' hr
theorem Pass.over {ts:List Tk}{L:List Dl}{ins:List (List Int)}{R:Nat→Nat→Int}{D:Nat→Bool}{now p:Nat} (h:Pass ts L ins R D now p (eqL L).length):Pass ts L ins R D now (p+1) 0:=
 ⟨h.up,fun j hj hr=>h.here j hj hj (by omega),fun j hj=>by omega⟩
theorem Pass.first {ts:List Tk}{L:List Dl}{ins:List (List Int)}{R:Nat→Nat→Int}{now:Nat} (h:∀ j k,j<(eqL L).length→k<now→R j k=sol ts L ins j k):Pass ts L ins R (fun _=>false) now 0 0:=
 ⟨⟨h,fun j _ hd=>by cases hd⟩,fun j _ hr=>by omega,fun j hj=>by omega⟩
theorem Pass.last {ts:List Tk}{L:List Dl}{ins:List (List Int)}{R:Nat→Nat→Int}{D:Nat→Bool}{now:Nat} (H:Right ts L) (h:Pass ts L ins R D now (eqL L).length 0):∀ j k,j<(eqL L).length→k<now+1→R j k=sol ts L ins j k:=by
 intro j k hj hk
 by_cases h1:k<now
 ·exact h.up.old j k hj h1
 ·have e:k=now:=by omega
  subst e
  exact h.up.new j hj (h.done j hj (rk_lt H.cyc hj))
def Bit (x:Int):Prop:=x=0∨x=1
theorem bit_b2i (b:Bool):Bit (b2i b):=by cases b <;> simp [Bit,b2i]
theorem or_none {a b:Option Nat} (h:a.or b=none):a=none∧b=none:=by cases a <;> simp_all
theorem bad_if {c:Bool}{p:Nat}{x:Option Nat} (h:(if c=true then some p else x)=none):c=false∧x=none:=by
 cases c <;> simp_all
theorem w64_id (x:Int) (h1 : -9223372036854775808≤x) (h2:x<9223372036854775808):w64 x=x:=by
 unfold w64 Go.RowKit.wrap64
 omega
section
variable {ts:List Tk} (hF:∀ i,TkF (tkAt ts i)) {L:List Dl}
include hF
theorem lit_bit {i:Nat} (h2:litT (tkAt ts i)=true) (hb:badR ts L i 116=false):Bit (litV (tkAt ts i)):=by
 have hlf:leafT (tkAt ts i)=true:=by unfold leafT;rw [h2];rfl
 have hk1:(tkAt ts i).kind≠1:=by have:=lit_nm hF h2;unfold isNm at this;simpa using this
 by_cases h3:(tkAt ts i).kind=3
 ·have hi:isR ts L i=110:=by unfold isR;rw [if_neg hk1,if_pos h3]
  unfold badR at hb;rw [hi] at hb;cases hb
 ·unfold litV;rw [if_neg h3];exact bit_b2i _
omit hF in
theorem op_truth {o:List UInt8} (h:(opOf o).isSome=true) (h2:opR o=116) (a b:Int):Bit (apF o a b):=by
 revert h h2
 unfold opOf
 split;· rename_i e;subst e;intro _ h;exact absurd h (by decide)
 split;· rename_i e;subst e;intro _ h;exact absurd h (by decide)
 split;· rename_i e;subst e;intro _ h;exact absurd h (by decide)
 split;· rename_i e;subst e;intro _ h;exact absurd h (by decide)
 split;· rename_i e;subst e;intro _ _;exact bit_b2i _
 split;· rename_i e;subst e;intro _ _;exact bit_b2i _
 split;· rename_i e;subst e;intro _ _;exact bit_b2i _
 split;· rename_i e;subst e;intro _ _;exact bit_b2i _
 ·intro h;cases h
theorem ev_bit {V:List UInt8→Nat→Int} (hV:∀ k n,k<ts.length→nameT ts L k=true→Bit (V (lAt ts k) n)):∀ (t:Ast) (i n:Nat),Sp ts t i→i+t.len≤ts.length→wrongR ts L t i 116=none→Bit (evT ts V t i n):=by
 intro t
 induction t with
 | leaf=>
  intro i n hs hl h
  simp only [Ast.len] at hl
  simp only [wrongR] at h
  obtain ⟨hb,_⟩:=bad_if h
  unfold evT
  by_cases h1:(tkAt ts i).kind=1
  ·rw [if_pos h1]
   cases hn:nameT ts L i with
   | true=>exact hV i n (by omega) hn
   | false=>
    have hi:isR ts L i=110:=by unfold isR;rw [if_pos h1,hn];rfl
    unfold badR at hb;rw [hi] at hb;cases hb
  ·rw [if_neg h1]
   have h2:litT (tkAt ts i)=true:=by
    have:=hs.1
    unfold leafT at this
    have hk:((tkAt ts i).kind == 1)=false:=by simpa using h1
    rwa [hk,Bool.or_false] at this
   exact lit_bit hF h2 hb
 | neg a iha=>
  intro i n hs hl h
  obtain ⟨h1,h2,h3,h4⟩:=hs
  simp only [Ast.len] at hl
  simp only [wrongR] at h
  have ha:=iha (i+2) n h3 (by omega) (bad_if h).2
  simp only [evT]
  rcases ha with ha | ha <;> rw [ha] <;> simp [Bit,w64,Go.RowKit.wrap64]
 | ite a b c iha ihb ihc=>
  intro i n hs hl h
  obtain ⟨h1,h2,h3,h4,h5,h6⟩:=hs
  simp only [Ast.len] at hl
  simp only [wrongR] at h
  obtain ⟨_,h⟩:=bad_if h
  obtain ⟨_,h⟩:=or_none h
  obtain ⟨hb,hc⟩:=or_none h
  simp only [evT]
  split
  ·exact ihb _ n h4 (by omega) hb
  ·exact ihc _ n h5 (by omega) hc
 | dly b ihb=>
  intro i n hs hl h
  obtain ⟨h1,h2,h3,h4,h5⟩:=hs
  simp only [Ast.len] at hl
  simp only [wrongR] at h
  obtain ⟨_,h⟩:=bad_if h
  obtain ⟨hb,hc⟩:=or_none h
  cases n with
  | zero=>simp only [evT];exact lit_bit hF h2 (bad_if hb).1
  | succ n=>simp only [evT];exact ihb _ n h4 (by omega) hc
 | bin a b iha ihb=>
  intro i n hs hl h
  obtain ⟨h1,h2,h3,h4,h5⟩:=hs
  obtain ⟨n1,n2⟩:=sp_first hF h2
  simp only [Ast.len] at hl
  simp only [wrongR] at h
  obtain ⟨hb,_⟩:=bad_if h
  have hbh:behindF ts (i+1)=i+1+a.len:=behind_sp hF a (i+1) h2 (by omega)
  have hi:isR ts L i=opR (lAt ts (i+1+a.len)):=by rw [isR_open hF h1,if_neg n1,if_neg n2,hbh]
  simp only [evT]
  refine op_truth h3 ?_ _ _
  unfold badR at hb
  rw [hi] at hb
  have hne:lAt ts (i+1+a.len)≠kFby:=fun e=>by rw [e] at h3;revert h3;decide
  unfold opR at hb ⊢
  rw [if_neg hne] at hb ⊢
  split at hb
  ·cases hb
  ·rename_i hx;rw [if_neg hx]
end
theorem nameT_of {ts:List Tk}{L:List Dl} (H:Right ts L) {k:Nat} (h:nameT ts L k=true):∃ j x,inIx ts L (lAt ts k)=none∧eqIx ts L (lAt ts k)=some j∧(eqL L)[j]? = some x∧x.kind=2:=by
 unfold nameT at h
 rw [List.any_eq_true] at h
 obtain ⟨x,hx,h2⟩:=h
 rw [Bool.and_eq_true,beq_iff_eq,beq_iff_eq] at h2
 obtain ⟨j,hj⟩:=ix_some (p:=nmIs ts (lAt ts k)) hx (by unfold nmIs;rw [h2.1];simp)
 obtain ⟨z,hz,hn⟩:=eqIx_some hj
 obtain ⟨m,hm,rfl⟩:=List.getElem_of_mem hx
 have hjm:=H.same hz (List.getElem?_eq_getElem hm) (hn.trans h2.1.symm)
 subst hjm
 refine ⟨j,_,?_,hj,List.getElem?_eq_getElem hm,h2.2⟩
 cases hi:inIx ts L (lAt ts k) with
 | none=>rfl
 | some i=>
  exfalso
  obtain ⟨g1,g2,_⟩:=List.findIdx?_eq_some_iff_getElem.1 hi
  have g3:(nameD ts (inL L)[i]).data.toList=lAt ts k:=by simpa [nmIs] using g2
  have m1:=List.mem_filter.1 (List.getElem_mem g1)
  have m2:=List.mem_filter.1 hx
  have e:=H.own _ m1.1 _ m2.1 (g3.trans h2.1.symm)
  have hp:=H.pw
  have k1:(inL L)[i].kind=0:=by simpa using m1.2
  have k2:(eqL L)[j].kind≠0:=by simpa using m2.2
  obtain ⟨a,ha,ea⟩:=List.getElem_of_mem m1.1
  obtain ⟨b,hb,eb⟩:=List.getElem_of_mem m2.1
  rw [List.pairwise_iff_getElem] at hp
  rw [← ea] at k1 e
  rw [← eb] at k2 e
  rcases Nat.lt_trichotomy a b with h | h | h
  ·have:=hp a b ha hb h;have:=L[a].len_pos;omega
  ·subst h;exact k2 k1
  ·have:=hp b a hb ha h;have:=L[b].len_pos;omega
theorem val_bit {ts:List Tk}{L:List Dl} (H:Right ts L) {ins:List (List Int)}{R:Nat→Nat→Int} (hR:∀ j n x,(eqL L)[j]? = some x→x.kind=2→Bit (R j n)):∀ k n,k<ts.length→nameT ts L k=true→Bit (valV ts L ins R (lAt ts k) n):=by
 intro k n _ h
 obtain ⟨j,x,h1,h2,h3,h4⟩:=nameT_of H h
 unfold valV
 rw [h1,h2]
 exact hR j n x h3 h4
theorem solF_bit {ts:List Tk}{L:List Dl} (H:Right ts L) (hT:typesR ts L=none) {ins:List (List Int)}:∀ f j n x,(eqL L)[j]? = some x→x.kind=2→Bit (solF ts L ins f j n):=by
 intro f
 induction f with
 | zero=>intro j n x _ _;exact .inl rfl
 | succ f ih=>
  intro j n x hx hk
  simp only [solF,bodyV,hx]
  obtain ⟨hs,hl⟩:=H.sp x (List.mem_of_getElem? hx)
  unfold typesR at hT
  rw [List.findSome?_eq_none_iff] at hT
  have hw:=hT x (List.mem_of_getElem? hx)
  rw [hk] at hw
  exact ev_bit H.F (val_bit H ih) x.t _ n hs hl hw
theorem sol_bit {ts:List Tk}{L:List Dl} (H:Right ts L) (hT:typesR ts L=none) {ins:List (List Int)} (j n:Nat) (x:Dl) (hx:(eqL L)[j]? = some x) (hk:x.kind=2):Bit (sol ts L ins j n):=solF_bit H hT _ j n x hx hk
def AllAt {α:Type} (P:Nat→α→Prop):Nat→List α→Prop
 | _,[]=>True
 | o,x :: l=>P o x∧AllAt P (o+1) l
theorem allAt_app {α:Type}{P:Nat→α→Prop}:∀ (l m:List α) (o:Nat),AllAt P o (l ++ m)↔AllAt P o l∧AllAt P (o+l.length) m:=by
 intro l
 induction l with
 | nil=>intro m o;simp [AllAt]
 | cons x l ih=>
  intro m o
  simp only [List.cons_append,AllAt,ih,List.length_cons]
  rw [show o+1+l.length=o+(l.length+1) by omega,and_assoc]
theorem allAt_get {α:Type}{P:Nat→α→Prop}:∀ (l:List α) (o:Nat),AllAt P o l↔∀ m x,l[m]? = some x→P (o+m) x:=by
 intro l
 induction l with
 | nil=>intro o;simp [AllAt]
 | cons x l ih=>
  intro o
  simp only [AllAt,ih]
  constructor
  ·rintro ⟨h1,h2⟩ m y hm
   cases m with
   | zero=>simp at hm;subst hm;exact h1
   | succ m=>have:=h2 m y (by simpa using hm);rwa [show o+1+m=o+(m+1) by omega] at this
  ·intro h
   refine ⟨h 0 x rfl,fun m y hm=>?_⟩
   have:=h (m+1) y (by simpa using hm)
   rwa [show o+(m+1)=o+1+m by omega] at this
theorem AllAt.mono {α:Type}{P Q:Nat→α→Prop} (h:∀ j x,P j x→Q j x):∀ (l:List α) (o:Nat),AllAt P o l→AllAt Q o l:=by
 intro l
 induction l with
 | nil=>intro o _;trivial
 | cons x l ih=>intro o hp;exact ⟨h _ _ hp.1,ih _ hp.2⟩
def numAt (ds:List Dc) (i:Int):Nat:=(ds.getD i.toNat ⟨0,0,⟨#[]⟩,0,0,0,0⟩).number
def rootAt (ds:List Dc) (i:Int):Nat:=(ds.getD i.toNat ⟨0,0,⟨#[]⟩,0,0,0,0⟩).root
def pairF (op:Nat) (a b:Int):Int:=
 if op=5 then w64 (a+b) else if op=6 then w64 (a - b) else if op=7 then w64 (a * b)
 else if op=8 then (if b=0 then 0 else if b = -1 then w64 (0 - a) else w64 (a.tdiv b)) else if op=9 then b2i (decide (a<b)) else if op=10 then b2i (decide (a=b))
 else if op=11 then b2i (decide (a≠0) && decide (b≠0)) else if op=12 then b2i (decide (a≠0) || decide (b≠0)) else 0
def nameF (ds:List Dc) (ins:List (List Int)) (b:Int) (k:Nat) (X:Nat→Int):Int:=if kindAt ds b=0 then elemF ins (numAt ds b) k else X (rootAt ds b)
def valF (ds:List Dc) (ins:List (List Int)) (n:Nd) (k:Nat) (X Y:Nat→Int):Int:=
 if n.kind=2 then nameF ds ins n.decl k X
 else if n.kind=3 then b2i (decide (X n.a=0))
 else if n.kind=4 then (if X n.a≠0 then X n.b else X n.c)
 else if n.kind=5 then (if k=0 then X n.a else Y n.b)
 else if n.kind=6 then pairF n.op (X n.a) (X n.b)
 else (n.value:Int)
def needs (n:Nd):List Nat:=
 if n.kind=3 then [n.a] else if n.kind=4 then [n.a,n.b,n.c] else if n.kind=5 then [n.a] else if n.kind=6 then [n.a,n.b] else []
def flatV (ts:List Tk) (V:List UInt8→Nat→Int) (k:Nat):Ast→Nat→List Int
 | .leaf,i=>[evT ts V .leaf i k]
 | .neg a,i=>evT ts V (.neg a) i k :: flatV ts V k a (i+2)
 | .ite a b c,i=>evT ts V (.ite a b c) i k :: (flatV ts V k a (i+2) ++ (flatV ts V k b (i+2+a.len) ++ flatV ts V k c (i+2+a.len+b.len)))
 | .dly b,i=>evT ts V (.dly b) i k :: litV (tkAt ts (i+1)) :: flatV ts V k b (i+3)
 | .bin a b,i=>evT ts V (.bin a b) i k :: (flatV ts V k a (i+1) ++ flatV ts V k b (i+2+a.len))
theorem flatV_len (ts:List Tk) (V:List UInt8→Nat→Int) (k:Nat):∀ (t:Ast) (i:Nat),(flatV ts V k t i).length=t.size:=by
 intro t
 induction t with
 | leaf=>intro i;rfl
 | neg a iha=>intro i;simp [flatV,Ast.size,iha]
 | ite a b c iha ihb ihc=>intro i;simp [flatV,Ast.size,iha,ihb,ihc];omega
 | dly b ihb=>intro i;simp [flatV,Ast.size,ihb]
 | bin a b iha ihb=>intro i;simp [flatV,Ast.size,iha,ihb]
theorem flatV_head {ts:List Tk}{V:List UInt8→Nat→Int}{k:Nat}{X:Nat→Int}:∀ {t:Ast}{i o:Nat},AllAt (fun j v=>X j=v) o (flatV ts V k t i)→X o=evT ts V t i k:=by
 intro t i o h
 cases t <;> exact h.1
theorem op_some {o:List UInt8} (h:(opOf o).isSome=true):o=[43]∨o=[45]∨o=[42]∨o=[47]∨o=[60]∨o=[61]∨o=[38]∨o=[124]:=by
 revert h
 unfold opOf
 split;· rename_i e;intro _;exact .inl e
 split;· rename_i e;intro _;exact .inr (.inl e)
 split;· rename_i e;intro _;exact .inr (.inr (.inl e))
 split;· rename_i e;intro _;exact .inr (.inr (.inr (.inl e)))
 split;· rename_i e;intro _;exact .inr (.inr (.inr (.inr (.inl e))))
 split;· rename_i e;intro _;exact .inr (.inr (.inr (.inr (.inr (.inl e)))))
 split;· rename_i e;intro _;exact .inr (.inr (.inr (.inr (.inr (.inr (.inl e))))))
 split;· rename_i e;intro _;exact .inr (.inr (.inr (.inr (.inr (.inr (.inr e))))))
 ·intro h;cases h
theorem pair_ap {o:List UInt8} (h:(opOf o).isSome=true) {a b:Int} (hb:o=[38]∨o=[124]→Bit a∧Bit b):apF o a b=pairF ((opOf o).getD 0) a b:=by
 rcases op_some h with rfl | rfl | rfl | rfl | rfl | rfl | rfl | rfl
 ·rfl
 ·rfl
 ·rfl
 ·show (if b=0 then 0 else w64 (a.tdiv b))=(if b=0 then 0 else if b = -1 then w64 (0 - a) else w64 (a.tdiv b))
  by_cases h0:b=0
  ·rw [if_pos h0,if_pos h0]
  ·rw [if_neg h0,if_neg h0]
   by_cases h1:b = -1
   ·rw [if_pos h1,h1]
    congr 1
    rw [Int.tdiv_neg,Int.tdiv_one];omega
   ·rw [if_neg h1]
 ·rfl
 ·rfl
 ·obtain ⟨h1,h2⟩:=hb (.inl rfl)
  rcases h1 with rfl | rfl <;> rcases h2 with rfl | rfl <;> decide
 ·obtain ⟨h1,h2⟩:=hb (.inr rfl)
  rcases h1 with rfl | rfl <;> rcases h2 with rfl | rfl <;> decide
section
variable {ds:List Dc} {ins:List (List Int)} {n:Nd} {k:Nat} {X Y:Nat→Int}
theorem valF3 (h:n.kind=3):valF ds ins n k X Y=b2i (decide (X n.a=0)):=by unfold valF;rw [if_neg (by omega),if_pos h]
theorem valF4 (h:n.kind=4):valF ds ins n k X Y=if X n.a≠0 then X n.b else X n.c:=by unfold valF;rw [if_neg (by omega),if_neg (by omega),if_pos h]
theorem valF5 (h:n.kind=5):valF ds ins n k X Y=if k=0 then X n.a else Y n.b:=by unfold valF;rw [if_neg (by omega),if_neg (by omega),if_neg (by omega),if_pos h]
theorem valF6 (h:n.kind=6):valF ds ins n k X Y=pairF n.op (X n.a) (X n.b):=by unfold valF;rw [if_neg (by omega),if_neg (by omega),if_neg (by omega),if_neg (by omega),if_pos h]
end
theorem bind_other {ds:List Dc}{n:Nd} (h:n.kind≠2):bindF ds n=n:=by unfold bindF;rw [if_neg h]
section
variable {ts:List Tk} (hF:∀ i,TkF (tkAt ts i)) {L:List Dl} {ds:List Dc} {ins:List (List Int)} {V:List UInt8→Nat→Int} {k:Nat} {X Y:Nat→Int}
include hF
theorem lit_val {i dl:Nat} (h:litT (tkAt ts i)=true):litV (tkAt ts i)=valF ds ins (bindF ds (mkN ts i dl (leafN0 (tkAt ts i)))) k X Y:=by
 have hlf:leafT (tkAt ts i)=true:=by unfold leafT;rw [h];rfl
 have hk1:(tkAt ts i).kind≠1:=by have:=lit_nm hF h;unfold isNm at this;simpa using this
 have hk:=leafN0_no hlf hk1
 rw [bind_other (by rw [mkN_kind];exact hk)]
 unfold litV
 by_cases h3:(tkAt ts i).kind=3
 ·have hn:∀ l,kwL.contains l=true→(tkAt ts i).l≠l:=fun l hl e=>by have:=(hF i).k3 h3;rw [e,hl] at this;cases this
  have hl:leafN0 (tkAt ts i) = { ndZero with kind:=0,value:=valOf (tkAt ts i).l }:=by
   unfold leafN0;rw [if_neg (hn _ (by decide)),if_neg (hn _ (by decide)),if_pos h3]
  rw [if_pos h3,hl];rfl
 ·rw [if_neg h3]
  unfold litT at h
  have h30:((tkAt ts i).kind == 3)=false:=by simpa using h3
  rw [h30,Bool.false_or,Bool.or_eq_true,beq_iff_eq,beq_iff_eq] at h
  by_cases e:(tkAt ts i).l=kTrue
  ·have hl:leafN0 (tkAt ts i) = { ndZero with kind:=1,value:=1 }:=by unfold leafN0;rw [if_pos e]
   rw [hl,e];rfl
  ·have e2:=h.resolve_left e
   have hl:leafN0 (tkAt ts i) = { ndZero with kind:=1 }:=by unfold leafN0;rw [if_neg e,if_pos e2]
   rw [hl,e2];rfl
theorem flat_val (hV:∀ k n,k<ts.length→nameT ts L k=true→Bit (V (lAt ts k) n)) :
  ∀ (t:Ast) (i dl off w:Nat),Sp ts t i→i+t.len≤ts.length→wrongR ts L t i w=none→
   (∀ j∈nms ts t i,V (lAt ts j) k=nameF ds ins (findF ds (tkAt ts j).text) k X)→
   AllAt (fun j v=>X j=v) off (flatV ts V k t i)→(k≠0→AllAt (fun j v=>Y j=v) off (flatV ts V (k - 1) t i))→
   AllAt (fun j n=>X j=valF ds ins (bindF ds n) k X Y) off (flat ts t i dl off):=by
 intro t
 induction t with
 | leaf=>
  intro i dl off w hs hl hw hn hX hY
  refine ⟨?_,trivial⟩
  show X off=valF ds ins (bindF ds (mkN ts i dl (leafN0 (tkAt ts i)))) k X Y
  rw [hX.1]
  by_cases h1:(tkAt ts i).kind=1
  ·have hb:bindF ds (mkN ts i dl (leafN0 (tkAt ts i))) = { mkN ts i dl (leafN0 (tkAt ts i)) with decl:=findF ds (tkAt ts i).text }:=by
    rw [leafN0_name (hF i) h1];unfold bindF;rw [if_pos (by rfl)];rfl
   rw [hb]
   have hk2:(leafN0 (tkAt ts i)).kind=2:=by rw [leafN0_name (hF i) h1]
   unfold evT valF
   rw [if_pos h1,if_pos (show ({ mkN ts i dl (leafN0 (tkAt ts i)) with decl:=findF ds (tkAt ts i).text }:Nd).kind=2 from hk2)]
   exact hn i (by unfold nms;rw [if_pos h1];simp)
  ·have h2:litT (tkAt ts i)=true:=by
    have:=hs.1
    unfold leafT at this
    have hk:((tkAt ts i).kind == 1)=false:=by simpa using h1
    rwa [hk,Bool.or_false] at this
   unfold evT
   rw [if_neg h1]
   exact lit_val hF h2
 | neg a iha=>
  intro i dl off w hs hl hw hn hX hY
  obtain ⟨h1,h2,h3,h4⟩:=hs
  simp only [Ast.len] at hl
  simp only [wrongR] at hw
  have ha:=ev_bit hF hV a (i+2) k h3 (by omega) (bad_if hw).2
  refine ⟨?_,iha (i+2) dl (off+1) 116 h3 (by omega) (bad_if hw).2 hn hX.2 (fun h=>(hY h).2)⟩
  show X off=valF ds ins (bindF ds (mkN ts i dl { ndZero with kind:=3,a:=off+1 })) k X Y
  rw [hX.1,bind_other (by simp [mkN]),valF3 rfl]
  have e1:=flatV_head hX.2
  show w64 (1 - evT ts V a (i+2) k)=b2i (decide (X (off+1)=0))
  rw [e1]
  rcases ha with ha | ha <;> rw [ha] <;> rw [w64_id _ (by decide) (by decide)] <;> decide
 | ite a b c iha ihb ihc=>
  intro i dl off w hs hl hw hn hX hY
  obtain ⟨h1,h2,h3,h4,h5,h6⟩:=hs
  simp only [Ast.len] at hl
  simp only [wrongR] at hw
  obtain ⟨_,hw⟩:=bad_if hw
  obtain ⟨wa,hw⟩:=or_none hw
  obtain ⟨wb,wc⟩:=or_none hw
  have ha:=ev_bit hF hV a (i+2) k h3 (by omega) wa
  obtain ⟨x0,hX⟩:=hX
  rw [allAt_app,allAt_app,flatV_len,flatV_len] at hX
  obtain ⟨xa,xb,xc⟩:=hX
  have hY':k≠0→AllAt (fun j v=>Y j=v) (off+1) (flatV ts V (k - 1) a (i+2))∧AllAt (fun j v=>Y j=v) (off+1+a.size) (flatV ts V (k - 1) b (i+2+a.len))∧AllAt (fun j v=>Y j=v) (off+1+a.size+b.size) (flatV ts V (k - 1) c (i+2+a.len+b.len)):=fun h=>by
   have:=(hY h).2
   rwa [allAt_app,allAt_app,flatV_len,flatV_len] at this
  simp only [nms,List.mem_append] at hn
  simp only [flat,AllAt]
  rw [allAt_app,allAt_app,flat_len,flat_len]
  refine ⟨?_,iha _ dl _ 116 h3 (by omega) wa (fun j hj=>hn j (.inl hj)) xa (fun h=>(hY' h).1),ihb _ dl _ w h4 (by omega) wb (fun j hj=>hn j (.inr (.inl hj))) xb (fun h=>(hY' h).2.1),ihc _ dl _ w h5 (by omega) wc (fun j hj=>hn j (.inr (.inr hj))) xc (fun h=>(hY' h).2.2)⟩
  rw [x0,bind_other (by simp [mkN]),valF4 rfl]
  have e1:=flatV_head xa
  have e2:=flatV_head xb
  have e3:=flatV_head xc
  show (if evT ts V a (i+2) k=1 then evT ts V b (i+2+a.len) k else evT ts V c (i+2+a.len+b.len) k)=if X (off+1)≠0 then X (off+1+a.size) else X (off+1+a.size+b.size)
  rw [e1,e2,e3]
  rcases ha with ha | ha <;> rw [ha] <;> rfl
 | dly b ihb=>
  intro i dl off w hs hl hw hn hX hY
  obtain ⟨h1,h2,h3,h4,h5⟩:=hs
  simp only [Ast.len] at hl
  simp only [wrongR] at hw
  obtain ⟨_,hw⟩:=bad_if hw
  obtain ⟨hb,hc⟩:=or_none hw
  obtain ⟨x0,x1,x2⟩:=hX
  refine ⟨?_,?_,ihb (i+3) (dl+1) (off+2) w h4 (by omega) hc hn x2 (fun h=>(hY h).2.2)⟩
  ·show X off=valF ds ins (bindF ds (mkN ts i dl { ndZero with kind:=5,a:=off+1,b:=off+2 })) k X Y
   rw [x0,bind_other (by simp [mkN]),valF5 rfl]
   show _=if k=0 then X (off+1) else Y (off+2)
   cases k with
   | zero=>rw [if_pos rfl,x1];rfl
   | succ n=>
    rw [if_neg (by omega)]
    have:=(hY (by omega)).2.2
    rw [flatV_head this];rfl
  ·show X (off+1)=valF ds ins (bindF ds (mkN ts (i+1) dl (leafN0 (tkAt ts (i+1))))) k X Y
   rw [x1];exact lit_val hF h2
 | bin a b iha ihb=>
  intro i dl off w hs hl hw hn hX hY
  obtain ⟨h1,h2,h3,h4,h5⟩:=hs
  simp only [Ast.len] at hl
  simp only [wrongR] at hw
  obtain ⟨_,hw⟩:=bad_if hw
  obtain ⟨wa,wb⟩:=or_none hw
  obtain ⟨x0,hX⟩:=hX
  rw [allAt_app,flatV_len] at hX
  obtain ⟨xa,xb⟩:=hX
  have hY':k≠0→AllAt (fun j v=>Y j=v) (off+1) (flatV ts V (k - 1) a (i+1))∧AllAt (fun j v=>Y j=v) (off+1+a.size) (flatV ts V (k - 1) b (i+2+a.len)):=fun h=>by
   have:=(hY h).2
   rwa [allAt_app,flatV_len] at this
  simp only [nms,List.mem_append] at hn
  simp only [flat,AllAt]
  rw [allAt_app,flat_len]
  refine ⟨?_,iha _ dl _ _ h2 (by omega) wa (fun j hj=>hn j (.inl hj)) xa (fun h=>(hY' h).1),ihb _ dl _ _ h4 (by omega) wb (fun j hj=>hn j (.inr hj)) xb (fun h=>(hY' h).2)⟩
  rw [x0,bind_other (by simp [mkN]),valF6 rfl]
  have e1:=flatV_head xa
  have e2:=flatV_head xb
  show apF (lAt ts (i+1+a.len)) (evT ts V a (i+1) k) (evT ts V b (i+2+a.len) k)=pairF ((opOf (lAt ts (i+1+a.len))).getD 0) (X (off+1)) (X (off+1+a.size))
  rw [e1,e2]
  refine pair_ap h3 fun ho=>?_
  have hbo:bothR (lAt ts (i+1+a.len))=116:=by unfold bothR;rw [if_pos ho]
  rw [hbo] at wa wb
  exact ⟨ev_bit hF hV a _ k h2 (by omega) wa,ev_bit hF hV b _ k h4 (by omega) wb⟩
end
theorem flat_head {ts:List Tk}:∀ (t:Ast) (i dl off:Nat),∃ n l,flat ts t i dl off=n :: l∧n.delayed=decide (0<dl):=by
 intro t i dl off
 cases t <;> exact ⟨_,_,rfl,rfl⟩
theorem flat_first {ts:List Tk}{D:Nat→Bool}{t:Ast}{i dl off:Nat} (h:AllAt (fun j n=>D j=n.delayed) off (flat ts t i dl off)):D off=decide (0<dl):=by
 obtain ⟨n,l,e,hn⟩:=flat_head t i dl off (ts:=ts)
 rw [e] at h
 rw [h.1,hn]
theorem leafN0_needs {ts:List Tk} (i dl:Nat) (t:Tk):needs (mkN ts i dl (leafN0 t))=[]:=by
 have:(mkN ts i dl (leafN0 t)).kind≤2:=by
  rw [mkN_kind]
  unfold leafN0
  split;· simp
  split;· simp
  split;· simp
  ·simp
 unfold needs
 rw [if_neg (by omega),if_neg (by omega),if_neg (by omega),if_neg (by omega)]
theorem flat_kids {ts:List Tk}{D:Nat→Bool}:∀ (t:Ast) (i dl off fin:Nat),off+t.size≤fin→AllAt (fun j n=>D j=n.delayed) off (flat ts t i dl off)→
  AllAt (fun j n=>∀ c∈needs n,j<c∧c<fin∧D c=n.delayed) off (flat ts t i dl off):=by
 intro t
 induction t with
 | leaf=>intro i dl off fin hf h;exact ⟨fun c hc=>by rw [leafN0_needs] at hc;simp at hc,trivial⟩
 | neg a iha=>
  intro i dl off fin hf h
  simp only [Ast.size] at hf
  have pa:=a.size_pos
  refine ⟨fun c hc=>?_,iha _ dl _ fin (by omega) h.2⟩
  have hc':c=off+1:=by simpa [needs,mkN] using hc
  subst hc'
  exact ⟨by omega,by omega,flat_first h.2⟩
 | ite a b c iha ihb ihc=>
  intro i dl off fin hf h
  simp only [Ast.size] at hf
  have pa:=a.size_pos
  have pb:=b.size_pos
  have pc:=c.size_pos
  obtain ⟨h0,h⟩:=h
  rw [allAt_app,allAt_app,flat_len,flat_len] at h
  obtain ⟨ha,hb,hc⟩:=h
  simp only [flat,AllAt]
  rw [allAt_app,allAt_app,flat_len,flat_len]
  refine ⟨fun d hd=>?_,iha _ dl _ fin (by omega) ha,ihb _ dl _ fin (by omega) hb,ihc _ dl _ fin (by omega) hc⟩
  have hd':d=off+1∨d=off+1+a.size∨d=off+1+a.size+b.size:=by simpa [needs,mkN] using hd
  rcases hd' with rfl | rfl | rfl
  ·exact ⟨by omega,by omega,flat_first ha⟩
  ·exact ⟨by omega,by omega,flat_first hb⟩
  ·exact ⟨by omega,by omega,flat_first hc⟩
 | dly b ihb=>
  intro i dl off fin hf h
  simp only [Ast.size] at hf
  refine ⟨fun c hc=>?_,fun c hc=>by rw [leafN0_needs] at hc;simp at hc,ihb _ (dl+1) _ fin (by omega) h.2.2⟩
  have hc':c=off+1:=by simpa [needs,mkN] using hc
  subst hc'
  exact ⟨by omega,by omega,h.2.1⟩
 | bin a b iha ihb=>
  intro i dl off fin hf h
  simp only [Ast.size] at hf
  have pa:=a.size_pos
  have pb:=b.size_pos
  obtain ⟨h0,h⟩:=h
  rw [allAt_app,flat_len] at h
  obtain ⟨ha,hb⟩:=h
  simp only [flat,AllAt]
  rw [allAt_app,flat_len]
  refine ⟨fun d hd=>?_,iha _ dl _ fin (by omega) ha,ihb _ dl _ fin (by omega) hb⟩
  have hd':d=off+1∨d=off+1+a.size:=by simpa [needs,mkN] using hd
  rcases hd' with rfl | rfl
  ·exact ⟨by omega,by omega,flat_first ha⟩
  ·exact ⟨by omega,by omega,flat_first hb⟩
structure Lt where
 t:Ast
 i:Nat
 dl:Nat
 o:Nat
structure WSt where
 ops:List OpF
 cells:List Int
 later:List Lt
structure WEnv where
 ts:List Tk
 ds:List Dc
 pl:Int
 lk:List Rt
 rs:List Nat
def plAt (ds:List Dc) (i:Int):Nat:=(ds.getD i.toNat ⟨0,0,⟨#[]⟩,0,0,0,0⟩).place
def wAdd (s:WSt) (o:OpF):WSt × Nat:=(⟨s.ops ++ [o],s.cells,s.later⟩,s.ops.length)
def wFind (lk:List Rt) (num:Nat):Nat × Bool:=
 match lk.findIdx? (fun r=>r.src == num) with
 | some i=>(i,((lk[i]?).map Rt.late).getD false)
 | none=>(0,false)
def wLink (E:WEnv) (n:Nd):Nat × Bool:=if n.kind≠2∨kindAt E.ds n.decl=0 then (0,false) else wFind E.lk (numAt E.ds n.decl)
def wName (E:WEnv) (s:WSt) (n:Nd):WSt × Nat:=
 if kindAt E.ds n.decl=0 then wAdd s ⟨1,(numAt E.ds n.decl:Nat),0,0⟩
 else if ((plAt E.ds n.decl:Nat):Int)=E.pl then (s,E.rs.getD n.decl.toNat 0)
 else wAdd s ⟨2,((wLink E n).1:Nat),0,0⟩
def wLeaf (E:WEnv) (s:WSt) (n:Nd):WSt × Nat:=if n.kind=2 then wName E s n else wAdd s ⟨0,(n.value:Nat),0,0⟩
def wHand (E:WEnv) (s:WSt) (first fol:Nd):WSt × Nat:=
 wAdd (wName E (wAdd (wAdd s ⟨4,0,0,0⟩).1 ⟨0,(first.value:Nat),0,0⟩).1 fol).1
  ⟨14,(s.ops.length:Nat),((s.ops.length+1:Nat):Int),((wName E (wAdd (wAdd s ⟨4,0,0,0⟩).1 ⟨0,(first.value:Nat),0,0⟩).1 fol).2:Nat)⟩
def wCell (s:WSt) (first:Nd) (l:Lt):WSt × Nat:=(⟨s.ops ++ [⟨3,(s.cells.length:Nat),0,0⟩],s.cells ++ [((first.value:Nat):Int)],s.later ++ [l]⟩,s.ops.length)
def leafB (E:WEnv) (i dl:Nat):Nd:=bindF E.ds (mkN E.ts i dl (leafN0 (tkAt E.ts i)))
def lateB (E:WEnv):Ast→Nat→Bool
 | .leaf,i=>(wLink E (leafB E i 0)).2
 | _,_=>false
def wExpr (E:WEnv):Ast→Nat→Nat→Nat→WSt→WSt × Nat
 | .leaf,i,dl,_,s=>wLeaf E s (leafB E i dl)
 | .neg a,i,dl,o,s=>wAdd (wExpr E a (i+2) dl (o+1) s).1 ⟨13,((wExpr E a (i+2) dl (o+1) s).2:Nat),0,0⟩
 | .ite a b c,i,dl,o,s=>
  let x:=wExpr E a (i+2) dl (o+1) s
  let y:=wExpr E b (i+2+a.len) dl (o+1+a.size) x.1
  let z:=wExpr E c (i+2+a.len+b.len) dl (o+1+a.size+b.size) y.1
  wAdd z.1 ⟨14,(x.2:Nat),(y.2:Nat),(z.2:Nat)⟩
 | .dly b,i,dl,o,s=>if lateB E b (i+3)=true then wHand E s (leafB E (i+1) dl) (leafB E (i+3) (dl+1)) else wCell s (leafB E (i+1) dl) ⟨b,i+3,dl+1,o+2⟩
 | .bin a b,i,dl,o,s=>
  let x:=wExpr E a (i+1) dl (o+1) s
  let y:=wExpr E b (i+2+a.len) dl (o+1+a.size) x.1
  wAdd y.1 ⟨((opOf (lAt E.ts (i+1+a.len))).getD 0:Nat),(x.2:Nat),(y.2:Nat),0⟩
theorem leafB_dl (E:WEnv) (i dl dl':Nat):(leafB E i dl).kind=(leafB E i dl').kind∧(leafB E i dl).decl=(leafB E i dl').decl∧(leafB E i dl).value=(leafB E i dl').value:=by
 unfold leafB bindF
 by_cases h:(leafN0 (tkAt E.ts i)).kind=2
 ·rw [if_pos (show (mkN E.ts i dl (leafN0 (tkAt E.ts i))).kind=2 from h),if_pos (show (mkN E.ts i dl' (leafN0 (tkAt E.ts i))).kind=2 from h)]
  exact ⟨rfl,rfl,rfl⟩
 ·rw [if_neg (show ¬ (mkN E.ts i dl (leafN0 (tkAt E.ts i))).kind=2 from h),if_neg (show ¬ (mkN E.ts i dl' (leafN0 (tkAt E.ts i))).kind=2 from h)]
  exact ⟨rfl,rfl,rfl⟩
theorem wLink_dl (E:WEnv) (i dl dl':Nat):wLink E (leafB E i dl)=wLink E (leafB E i dl'):=by
 obtain ⟨h1,h2,_⟩:=leafB_dl E i dl dl'
 unfold wLink;rw [h1,h2]
def Pre (s F:WSt):Prop:=∃ o c l,F=⟨s.ops ++ o,s.cells ++ c,s.later ++ l⟩
theorem Pre.refl (s:WSt):Pre s s:=⟨[],[],[],by simp⟩
theorem Pre.trans {a b c:WSt} (h:Pre a b) (k:Pre b c):Pre a c:=by
 obtain ⟨o,x,l,rfl⟩:=h
 obtain ⟨o',x',l',rfl⟩:=k
 exact ⟨o ++ o',x ++ x',l ++ l',by simp⟩
theorem Pre.op {s F:WSt} (h:Pre s F) {j:Nat}{o:OpF} (hj:s.ops[j]? = some o):F.ops[j]? = some o:=by
 obtain ⟨a,b,c,rfl⟩:=h
 show (s.ops ++ a)[j]? = _
 rw [List.getElem?_append_left (List.getElem?_eq_some_iff.1 hj).1];exact hj
theorem Pre.cell {s F:WSt} (h:Pre s F) {j:Nat}{o:Int} (hj:s.cells[j]? = some o):F.cells[j]? = some o:=by
 obtain ⟨a,b,c,rfl⟩:=h
 show (s.cells ++ b)[j]? = _
 rw [List.getElem?_append_left (List.getElem?_eq_some_iff.1 hj).1];exact hj
theorem Pre.lat {s F:WSt} (h:Pre s F) {j:Nat}{o:Lt} (hj:s.later[j]? = some o):F.later[j]? = some o:=by
 obtain ⟨a,b,c,rfl⟩:=h
 show (s.later ++ c)[j]? = _
 rw [List.getElem?_append_left (List.getElem?_eq_some_iff.1 hj).1];exact hj
theorem Pre.len {s F:WSt} (h:Pre s F):s.ops.length≤F.ops.length∧s.cells.length≤F.cells.length∧s.later.length≤F.later.length:=by
 obtain ⟨a,b,c,rfl⟩:=h
 simp
theorem pre_add (s:WSt) (o:OpF):Pre s (wAdd s o).1:=⟨[o],[],[],by simp [wAdd]⟩
theorem pre_name (E:WEnv) (s:WSt) (n:Nd):Pre s (wName E s n).1:=by
 unfold wName
 split
 ·exact pre_add s _
 ·split
  ·exact Pre.refl s
  ·exact pre_add s _
theorem pre_leaf (E:WEnv) (s:WSt) (n:Nd):Pre s (wLeaf E s n).1:=by
 unfold wLeaf
 split
 ·exact pre_name E s n
 ·exact pre_add s _
theorem pre_hand (E:WEnv) (s:WSt) (a b:Nd):Pre s (wHand E s a b).1:=
 (((pre_add s _).trans (pre_add _ _)).trans (pre_name E _ b)).trans (pre_add _ _)
theorem pre_expr (E:WEnv):∀ (t:Ast) (i dl o:Nat) (s:WSt),Pre s (wExpr E t i dl o s).1:=by
 intro t
 induction t with
 | leaf=>intro i dl o s;exact pre_leaf E s _
 | neg a iha=>intro i dl o s;exact (iha _ _ _ s).trans (pre_add _ _)
 | ite a b c iha ihb ihc=>intro i dl o s;exact (((iha _ _ _ s).trans (ihb _ _ _ _)).trans (ihc _ _ _ _)).trans (pre_add _ _)
 | dly b ihb=>
  intro i dl o s
  simp only [wExpr]
  split
  ·exact pre_hand E s _ _
  ·exact ⟨_,_,_,rfl⟩
 | bin a b iha ihb=>intro i dl o s;exact ((iha _ _ _ s).trans (ihb _ _ _ _)).trans (pre_add _ _)
def lw (l:List Lt):Nat:=(l.map fun x=>x.t.len).sum
def lf (ts:List Tk) (l:List Lt):Nat:=(l.map fun x=>fbyT ts x.i x.t.len).sum
theorem lw_app (a b:List Lt):lw (a ++ b)=lw a+lw b:=by simp [lw]
theorem lf_app (ts:List Tk) (a b:List Lt):lf ts (a ++ b)=lf ts a+lf ts b:=by simp [lf]
theorem fbyT_add (ts:List Tk) (b m n:Nat):fbyT ts b (m+n)=fbyT ts b m+fbyT ts (b+m) n:=by
 unfold fbyT
 rw [range_split,List.filter_append,List.length_append]
structure Wle (ts:List Tk) (s s':WSt) (len f:Nat):Prop where
 ops:s'.ops.length+lw s'.later≤s.ops.length+lw s.later+len
 cells:s'.cells.length+lf ts s'.later≤s.cells.length+lf ts s.later+f
 same:s'.cells.length+s.later.length=s.cells.length+s'.later.length
theorem Wle.trans {ts:List Tk}{a b c:WSt}{l f l' f':Nat} (h:Wle ts a b l f) (k:Wle ts b c l' f'):Wle ts a c (l+l') (f+f'):=by
 have h1:=h.ops;have h2:=h.cells;have h3:=h.same;have h4:=k.ops;have h5:=k.cells;have h6:=k.same
 exact ⟨by omega,by omega,by omega⟩
theorem Wle.mono {ts:List Tk}{a b:WSt}{l f l' f':Nat} (h:Wle ts a b l f) (h1:l≤l') (h2:f≤f'):Wle ts a b l' f':=by
 have h1:=h.ops;have h2:=h.cells
 exact ⟨by omega,by omega,h.same⟩
theorem wle_add (ts:List Tk) (s:WSt) (o:OpF):Wle ts s (wAdd s o).1 1 0:=⟨by simp [wAdd];omega,by simp [wAdd],by simp [wAdd]⟩
theorem wle_refl (ts:List Tk) (s:WSt):Wle ts s s 0 0:=⟨by omega,by omega,by omega⟩
theorem wle_name (E:WEnv) (s:WSt) (n:Nd):Wle E.ts s (wName E s n).1 1 0:=by
 unfold wName
 split
 ·exact wle_add _ s _
 ·split
  ·exact (wle_refl _ s).mono (by omega) (by omega)
  ·exact wle_add _ s _
theorem wle_leaf (E:WEnv) (s:WSt) (n:Nd):Wle E.ts s (wLeaf E s n).1 1 0:=by
 unfold wLeaf
 split
 ·exact wle_name E s n
 ·exact wle_add _ s _
theorem wle_expr (E:WEnv):∀ (t:Ast) (i dl o:Nat) (s:WSt),Sp E.ts t i→Wle E.ts s (wExpr E t i dl o s).1 t.len (fbyT E.ts i t.len):=by
 intro t
 induction t with
 | leaf=>intro i dl o s _;exact (wle_leaf E s _).mono (Nat.le_refl _) (by omega)
 | neg a iha=>
  intro i dl o s hs
  refine ((iha (i+2) dl (o+1) s hs.2.2.1).trans (wle_add E.ts _ _)).mono (by simp only [Ast.len];omega) ?_
  simp only [Ast.len]
  rw [show a.len+3=2+(a.len+1) by omega,fbyT_add,fbyT_add];omega
 | ite a b c iha ihb ihc=>
  intro i dl o s hs
  refine ((((iha (i+2) dl (o+1) s hs.2.2.1).trans (ihb (i+2+a.len) dl (o+1+a.size) _ hs.2.2.2.1)).trans (ihc (i+2+a.len+b.len) dl (o+1+a.size+b.size) _ hs.2.2.2.2.1)).trans (wle_add E.ts _ _)).mono (by simp only [Ast.len];omega) ?_
  simp only [Ast.len]
  rw [show a.len+b.len+c.len+3=2+(a.len+(b.len+(c.len+1))) by omega,fbyT_add,fbyT_add,fbyT_add,fbyT_add];omega
 | dly b ihb=>
  intro i dl o s hs
  obtain ⟨_,_,h3,_,_⟩:=hs
  have e1:fbyT E.ts i (b.len+4)=fbyT E.ts i 2+1+fbyT E.ts (i+3) b.len+fbyT E.ts (i+3+b.len) 1:=by
   rw [show b.len+4=2+(1+(b.len+1)) by omega,fbyT_add,fbyT_add,fbyT_add,show fbyT E.ts (i+2) 1=1 by
    rw [show (1:Nat)=0+1 from rfl,fbyT_succ,Nat.add_zero,if_pos h3];rfl,show i+2+1=i+3 from rfl]
   omega
  simp only [wExpr,Ast.len]
  split
  ·rename_i hl
   have:b = .leaf:=by
    cases b <;> simp [lateB] at hl ⊢
   subst this
   refine (((((wle_add E.ts s _).trans (wle_add E.ts _ _)).trans (wle_name E _ _)).trans (wle_add E.ts _ _))).mono (by simp [Ast.len]) (by omega)
  ·refine ⟨?_,?_,?_⟩
   ·simp only [wCell,List.length_append,List.length_singleton,lw_app]
    simp [lw];omega
   ·simp only [wCell,List.length_append,List.length_singleton,lf_app]
    rw [e1]
    simp [lf];omega
   ·simp [wCell];omega
 | bin a b iha ihb=>
  intro i dl o s hs
  refine (((iha (i+1) dl (o+1) s hs.2.1).trans (ihb (i+2+a.len) dl (o+1+a.size) _ hs.2.2.2.1)).trans (wle_add E.ts _ _)).mono (by simp only [Ast.len];omega) ?_
  simp only [Ast.len]
  rw [show a.len+b.len+3=1+(a.len+(1+(b.len+1))) by omega,fbyT_add,fbyT_add,fbyT_add,fbyT_add]
  rw [show i+1+a.len+1=i+2+a.len by omega];omega
theorem later_nameA (E:WEnv) (s:WSt) (n:Nd):(wName E s n).1.later=s.later:=by
 unfold wName
 split
 ·rfl
 ·split <;> rfl
theorem wx_gain (E:WEnv):∀ (t:Ast) (i dl o:Nat) (s:WSt),lw (wExpr E t i dl o s).1.later<lw s.later+t.len:=by
 intro t
 induction t with
 | leaf=>
  intro i dl o s
  simp only [wExpr,wLeaf,Ast.len]
  split
  ·rw [later_nameA];omega
  ·simp [wAdd]
 | neg a iha=>intro i dl o s;have:=iha (i+2) dl (o+1) s;simp only [Ast.len];show lw (wExpr E a (i+2) dl (o+1) s).1.later<_;omega
 | ite a b c iha ihb ihc=>
  intro i dl o s
  have h1:=iha (i+2) dl (o+1) s
  have h2:=ihb (i+2+a.len) dl (o+1+a.size) (wExpr E a (i+2) dl (o+1) s).1
  have h3:=ihc (i+2+a.len+b.len) dl (o+1+a.size+b.size) (wExpr E b (i+2+a.len) dl (o+1+a.size) (wExpr E a (i+2) dl (o+1) s).1).1
  simp only [Ast.len]
  show lw (wExpr E c _ dl _ _).1.later<_
  omega
 | dly b ihb=>
  intro i dl o s
  simp only [wExpr,Ast.len]
  split
  ·show lw (wName E _ _).1.later<_
   rw [later_nameA]
   show lw s.later<_
   omega
  ·simp only [wCell,lw_app]
   simp [lw]
 | bin a b iha ihb=>
  intro i dl o s
  have h1:=iha (i+1) dl (o+1) s
  have h2:=ihb (i+2+a.len) dl (o+1+a.size) (wExpr E a (i+1) dl (o+1) s).1
  simp only [Ast.len]
  show lw (wExpr E b _ dl _ _).1.later<_
  omega
end Go.Proofs.YtecegaflhdgfaaaGreat
