import Derived.Test.YtmndgoapkmhglabGreatM18RefF
import Derived.Test.YtmndgoapkmhglabGreatM20OpC
namespace Go.Proofs.YtmndgoapkmhglabGreat
theorem names_at {ts:List Tk}{L:List Dl} (h:namesR ts L=none) {k:Nat} (hk:k<ts.length) (hn:isNm ts k=true):(hereR L k=true→aheadR ts L k=false)∧someR ts L k=true:=by
 unfold namesR at h
 rw [Option.map_eq_none_iff,List.find?_eq_none] at h
 have:=h k (by rw [List.mem_range'_1];omega)
 unfold badNm qNm at this
 rw [hn] at this
 simp at this
 exact this
structure Right (ts:List Tk) (L:List Dl):Prop extends Eqs ts L where
 own:∀ x∈L,∀ y∈L,(nameD ts x).data.toList=(nameD ts y).data.toList→x.i=y.i
 decl:∀ k,k<ts.length→isNm ts k=true→∃ x∈L,(nameD ts x).data.toList=lAt ts k
 pw:L.Pairwise (fun x y=>x.i+x.len≤y.i)
 few:(eqL L).length≤12∧(inL L).length≤4
theorem less_none {a b:Option Nat} (h:less a b=none):a=none∧b=none:=by
 cases a <;> cases b <;> simp_all [less]
theorem right_of {ts:List Tk}{L:List Dl} (hF:∀ i,TkF (tkAt ts i)) (hs:Spell ts L 0) (hm:manyR ts L=none) (hn:namesR ts L=none) (hc:cycR ts L=none):Right ts L:=by
 have hmem:=fun x hx=>(spell_mem L 0 hs x hx).2
 have hnm:∀ x∈L,x.i+1<ts.length∧isNm ts (x.i+1)=true:=fun x hx=>by
  obtain ⟨h1,h2⟩:=hmem x hx
  have:=x.len_pos
  refine ⟨by omega,?_⟩
  unfold isNm
  rcases h2 with ⟨_,_,h,_⟩ | ⟨_,h,_⟩ <;> rw [h] <;> rfl
 have hown:∀ x∈L,∀ y∈L,(nameD ts x).data.toList=(nameD ts y).data.toList→¬ x.i<y.i:=fun x hx y hy he hlt=>by
  obtain ⟨h1,h2⟩:=hnm y hy
  have h3:=(names_at hn h1 h2).1 (by unfold hereR;rw [List.any_eq_true];exact ⟨y,hy,by simp⟩)
  unfold aheadR at h3
  rw [List.any_eq_false] at h3
  refine h3 x hx ?_
  simp only [Bool.and_eq_true,beq_iff_eq,decide_eq_true_eq]
  exact ⟨he,by omega⟩
 have hmany:=less_none hm
 refine { F:=hF,sp:=fun x hx=>?_,cyc:=hc,own:=fun x hx y hy he=>?_,decl:=fun k hk h=>?_,pw:=spell_lt L 0 hs,few:=⟨?_,?_⟩ }
 ·have hm':=List.mem_filter.1 hx
  have hk:x.kind≠0:=by simpa using hm'.2
  obtain ⟨h1,h2⟩:=hmem x hm'.1
  have hl:x.len=x.t.len+6:=by unfold Dl.len;rw [if_neg hk]
  rcases h2 with ⟨h,_⟩ | ⟨_,_,_,_,_,h,_⟩
  ·exact absurd h hk
  ·exact ⟨h,by omega⟩
 ·have a:=hown x hx y hy he
  have b:=hown y hy x hx he.symm
  omega
 ·have h3:=(names_at hn hk h).2
  unfold someR at h3
  rw [List.any_eq_true] at h3
  obtain ⟨x,hx,he⟩:=h3
  exact ⟨x,hx,by simpa using he⟩
 ·have:=hmany.1
  rw [Option.map_eq_none_iff,List.getElem?_eq_none_iff] at this
  exact this
 ·have:=hmany.2
  rw [Option.map_eq_none_iff,List.getElem?_eq_none_iff] at this
  exact this
theorem nms_lt {ts:List Tk} (t:Ast) (i:Nat):∀ j∈nms ts t i,i≤j∧j<i+t.len:=by
 intro j hj
 rw [nms_nmD ts t i false] at hj
 obtain ⟨x,hx,rfl⟩:=List.mem_map.1 hj
 exact nm_in t i false x hx
theorem nms_nm {ts:List Tk}:∀ (t:Ast) (i:Nat),∀ j∈nms ts t i,isNm ts j=true:=by
 intro t
 induction t with
 | leaf=>
  intro i j h
  unfold nms at h
  split at h
  ·rename_i hk;simp at h;rw [h];unfold isNm;rw [hk];rfl
  ·simp at h
 | neg a iha=>intro i j h;exact iha _ j h
 | ite a b c iha ihb ihc=>
  intro i j h
  simp only [nms,List.mem_append] at h
  exact h.elim (iha _ j) (fun h=>h.elim (ihb _ j) (ihc _ j))
 | dly b ihb=>intro i j h;exact ihb _ j h
 | bin a b iha ihb=>
  intro i j h
  simp only [nms,List.mem_append] at h
  exact h.elim (iha _ j) (ihb _ j)
theorem ix_some {l:List Dl}{p:Dl→Bool}{x:Dl} (hx:x∈l) (hp:p x=true):∃ j,l.findIdx? p=some j:=by
 cases h:l.findIdx? p with
 | some j=>exact ⟨j,rfl⟩
 | none=>rw [List.findIdx?_eq_none_iff] at h;rw [h x hx] at hp;cases hp
theorem Right.find {ts:List Tk}{L:List Dl} (H:Right ts L) {k:Nat} (hk:k<ts.length) (hn:isNm ts k=true):(∃ i,inIx ts L (lAt ts k)=some i)∨(∃ j,eqIx ts L (lAt ts k)=some j):=by
 obtain ⟨x,hx,he⟩:=H.decl k hk hn
 have hp:nmIs ts (lAt ts k) x=true:=by unfold nmIs;rw [he];simp
 by_cases h0:x.kind=0
 ·exact .inl (ix_some (List.mem_filter.2 ⟨hx,by rw [h0];rfl⟩) hp)
 ·exact .inr (ix_some (List.mem_filter.2 ⟨hx,by simpa using h0⟩) hp)
theorem Right.same {ts:List Tk}{L:List Dl} (H:Right ts L) {i j:Nat}{x y:Dl} (hx:(eqL L)[i]? = some x) (hy:(eqL L)[j]? = some y) (he:(nameD ts x).data.toList=(nameD ts y).data.toList):i=j:=by
 have mx:x∈L:=(List.mem_filter.1 (List.mem_of_getElem? hx)).1
 have my:y∈L:=(List.mem_filter.1 (List.mem_of_getElem? hy)).1
 have hi:=H.own x mx y my he
 obtain ⟨h1,rfl⟩:=List.getElem?_eq_some_iff.1 hx
 obtain ⟨h2,rfl⟩:=List.getElem?_eq_some_iff.1 hy
 have hp:(eqL L).Pairwise (fun x y=>x.i+x.len≤y.i):=H.pw.filter _
 rw [List.pairwise_iff_getElem] at hp
 rcases Nat.lt_trichotomy i j with h | h | h
 ·have:=hp i j h1 h2 h;have:=(eqL L)[i].len_pos;omega
 ·exact h
 ·have:=hp j i h2 h1 h;have:=(eqL L)[j].len_pos;omega
def knR (ts:List Tk) (L:List Dl) (ins:List (List Int)) (R:Nat→Nat→Int) (D:Nat→Bool) (now:Nat) (w:List UInt8) (n:Nat):Int × Bool:=
 match inIx ts L w with
 | some i=>(elemF ins i n,true)
 | none=>match eqIx ts L w with
  | some j=>if decide (n<now) || D j then (R j n,true) else (0,false)
  | none=>(0,false)
structure UpTo (ts:List Tk) (L:List Dl) (ins:List (List Int)) (R:Nat→Nat→Int) (D:Nat→Bool) (now:Nat):Prop where
 old:∀ j k,j<(eqL L).length→k<now→R j k=sol ts L ins j k
 new:∀ j,j<(eqL L).length→D j=true→R j now=sol ts L ins j now
theorem inst_val {ts:List Tk}{L:List Dl}{ins:List (List Int)}{R:Nat→Nat→Int}{D:Nat→Bool}{now:Nat} (H:Right ts L) (h:UpTo ts L ins R D now) (j:Nat) (hj:j<(eqL L).length)
  (hk:(evR ts (knR ts L ins R D now) (eqL L)[j].t ((eqL L)[j].i+5) now).2=true):(evR ts (knR ts L ins R D now) (eqL L)[j].t ((eqL L)[j].i+5) now).1=sol ts L ins j now:=by
 rw [sol_eq H.toEqs j now hj]
 refine evR_val ts _ _ _ (fun w n' hn hw=>?_) hk
 unfold knR at hw ⊢
 unfold valV
 cases hi:inIx ts L w with
 | some i=>rfl
 | none=>
  simp only [hi] at hw ⊢
  cases he:eqIx ts L w with
  | none=>simp only [he] at hw;cases hw
  | some l=>
   simp only [he] at hw ⊢
   obtain ⟨z,hz,_⟩:=eqIx_some he
   have hlt:l<(eqL L).length:=(List.getElem?_eq_some_iff.1 hz).1
   split at hw
   ·rename_i hc
    rw [if_pos hc]
    show R l n'=_
    by_cases h1:n'<now
    ·exact h.old l n' hlt h1
    ·have e:n'=now:=by omega
     subst e
     have hd:D l=true:=by simpa using hc
     exact h.new l hlt hd
   ·cases hw
theorem inst_known {ts:List Tk}{L:List Dl}{ins:List (List Int)}{R:Nat→Nat→Int}{D:Nat→Bool}{now:Nat} (H:Right ts L) (j:Nat) (hj:j<(eqL L).length)
  (hd:∀ l,l<(eqL L).length→relR ts L j l=true→D l=true):(evR ts (knR ts L ins R D now) (eqL L)[j].t ((eqL L)[j].i+5) now).2=true:=by
 have hx:(eqL L)[j]? = some (eqL L)[j]:=List.getElem?_eq_getElem hj
 obtain ⟨hs,hl⟩:=H.sp (eqL L)[j] (List.getElem_mem hj)
 have hex:∀ k∈nms ts (eqL L)[j].t ((eqL L)[j].i+5),(∃ i,inIx ts L (lAt ts k)=some i)∨(∃ l,eqIx ts L (lAt ts k)=some l):=fun k hk=>by
  have:=nms_lt _ _ k hk
  exact H.find (by omega) (nms_nm _ _ k hk)
 refine evR_known ts _ _ _ (fun k hk=>?_) (fun k hk n' hn=>?_)
 ·unfold knR
  cases hi:inIx ts L (lAt ts k) with
  | some i=>rfl
  | none=>
   rcases hex k (und_nms ts _ _ k hk) with ⟨i,h⟩ | ⟨l,h⟩
   ·rw [hi] at h;cases h
   ·simp only [h]
    obtain ⟨z,hz,_⟩:=eqIx_some h
    rw [hd l (List.getElem?_eq_some_iff.1 hz).1 (rel_und H.F hx hs hl hk h)]
    simp
 ·unfold knR
  cases hi:inIx ts L (lAt ts k) with
  | some i=>rfl
  | none=>
   rcases hex k hk with ⟨i,h⟩ | ⟨l,h⟩
   ·rw [hi] at h;cases h
   ·simp only [h]
    rw [decide_eq_true hn]
    simp
structure Pass (ts:List Tk) (L:List Dl) (ins:List (List Int)) (R:Nat→Nat→Int) (D:Nat→Bool) (now p i:Nat):Prop where
 up:UpTo ts L ins R D now
 done:∀ j,j<(eqL L).length→rk ts L j<p→D j=true
 here:∀ j,j<i→j<(eqL L).length→rk ts L j≤p→D j=true
def setR (R:Nat→Nat→Int) (a b:Nat) (v:Int):Nat→Nat→Int:=fun i k=>if i=a∧k=b then v else R i k
def setD (D:Nat→Bool) (a:Nat) (v:Bool):Nat→Bool:=fun i=>if i=a then v else D i
theorem Pass.skip {ts:List Tk}{L:List Dl}{ins:List (List Int)}{R:Nat→Nat→Int}{D:Nat→Bool}{now p i:Nat} (h:Pass ts L ins R D now p i) (hd:D i=true):Pass ts L ins R D now p (i+1):=
 ⟨h.up,h.done,fun j hj hj' hr=>by
  by_cases e:j=i
  ·rw [e];exact hd
  ·exact h.here j (by omega) hj' hr⟩
theorem Pass.next {ts:List Tk}{L:List Dl}{ins:List (List Int)}{R:Nat→Nat→Int}{D:Nat→Bool}{now p i:Nat} (H:Right ts L) (h:Pass ts L ins R D now p i) (hi:i<(eqL L).length) (hd:D i=false) :
  Pass ts L ins (setR R i now (evR ts (knR ts L ins R D now) (eqL L)[i].t ((eqL L)[i].i+5) now).1) (setD D i (evR ts (knR ts L ins R D now) (eqL L)[i].t ((eqL L)[i].i+5) now).2) now p (i+1):=by
 refine ⟨⟨fun j k hj hk=>?_,fun j hj hD=>?_⟩,fun j hj hr=>?_,fun j hj hj' hr=>?_⟩
 ·unfold setR;rw [if_neg (by omega)];exact h.up.old j k hj hk
 ·unfold setD at hD
  by_cases e:j=i
  ·subst e
   rw [if_pos rfl] at hD
   unfold setR
   rw [if_pos ⟨rfl,rfl⟩]
   exact inst_val H h.up j hj hD
  ·rw [if_neg e] at hD
   unfold setR
   rw [if_neg (by omega)]
   exact h.up.new j hj hD
 ·unfold setD
  by_cases e:j=i
  ·subst e;rw [h.done j hj hr] at hd;cases hd
  ·rw [if_neg e];exact h.done j hj hr
 ·unfold setD
  by_cases e:j=i
  ·subst e
   rw [if_pos rfl]
   refine inst_known H j hj' (fun l hl hrel=>h.done l hl ?_)
   have:=rk_less H.cyc hl hrel
   omega
  ·rw [if_neg e];exact h.here j (by omega) hj' hr
theorem Pass.over {ts:List Tk}{L:List Dl}{ins:List (List Int)}{R:Nat→Nat→Int}{D:Nat→Bool}{now p:Nat} (h:Pass ts L ins R D now p (eqL L).length):Pass ts L ins R D now (p+1) 0:=
 ⟨h.up,fun j hj hr=>h.here j hj hj (by omega),fun j hj=>by omega⟩
theorem Pass.first {ts:List Tk}{L:List Dl}{ins:List (List Int)}{R:Nat→Nat→Int}{now:Nat} (h:∀ j k,j<(eqL L).length→k<now→R j k=sol ts L ins j k):Pass ts L ins R (fun _=>false) now 0 0:=
 ⟨⟨h,fun j _ hd=>by cases hd⟩,fun j _ hr=>by omega,fun j hj=>by omega⟩
theorem Pass.last {ts:List Tk}{L:List Dl}{ins:List (List Int)}{R:Nat→Nat→Int}{D:Nat→Bool}{now:Nat} (H:Right ts L) (h:Pass ts L ins R D now (eqL L).length 0):∀ j k,j<(eqL L).length→k<now+1→R j k=sol ts L ins j k:=by
 intro j k hj hk
 by_cases h1:k<now
 ·exact h.up.old j k hj h1
 ·have e:k=now:=by omega
  subst e
  exact h.up.new j hj (h.done j hj (rk_lt H.cyc hj))
def Bit (x:Int):Prop:=x=0∨x=1
theorem bit_b2i (b:Bool):Bit (b2i b):=by cases b <;> simp [Bit,b2i]
theorem or_none {a b:Option Nat} (h:a.or b=none):a=none∧b=none:=by cases a <;> simp_all
theorem bad_if {c:Bool}{p:Nat}{x:Option Nat} (h:(if c=true then some p else x)=none):c=false∧x=none:=by
 cases c <;> simp_all
theorem w64_id (x:Int) (h1 : -9223372036854775808≤x) (h2:x<9223372036854775808):w64 x=x:=by
 unfold w64 Go.RowKit.wrap64
 omega
section
variable {ts:List Tk} (hF:∀ i,TkF (tkAt ts i)) {L:List Dl}
include hF
theorem lit_bit {i:Nat} (h2:litT (tkAt ts i)=true) (hb:badR ts L i 116=false):Bit (litV (tkAt ts i)):=by
 have hlf:leafT (tkAt ts i)=true:=by unfold leafT;rw [h2];rfl
 have hk1:(tkAt ts i).kind≠1:=by have:=lit_nm hF h2;unfold isNm at this;simpa using this
 by_cases h3:(tkAt ts i).kind=3
 ·have hi:isR ts L i=110:=by unfold isR;rw [if_neg hk1,if_pos h3]
  unfold badR at hb;rw [hi] at hb;cases hb
 ·unfold litV;rw [if_neg h3];exact bit_b2i _
omit hF in
theorem op_truth {o:List UInt8} (h:(opOf o).isSome=true) (h2:opR o=116) (a b:Int):Bit (apF o a b):=by
 revert h h2
 unfold opOf
 split;· rename_i e;subst e;intro _ h;exact absurd h (by decide)
 split;· rename_i e;subst e;intro _ h;exact absurd h (by decide)
 split;· rename_i e;subst e;intro _ h;exact absurd h (by decide)
 split;· rename_i e;subst e;intro _ h;exact absurd h (by decide)
 split;· rename_i e;subst e;intro _ _;exact bit_b2i _
 split;· rename_i e;subst e;intro _ _;exact bit_b2i _
 split;· rename_i e;subst e;intro _ _;exact bit_b2i _
 split;· rename_i e;subst e;intro _ _;exact bit_b2i _
 ·intro h;cases h
theorem ev_bit {V:List UInt8→Nat→Int} (hV:∀ k n,k<ts.length→nameT ts L k=true→Bit (V (lAt ts k) n)):∀ (t:Ast) (i n:Nat),Sp ts t i→i+t.len≤ts.length→wrongR ts L t i 116=none→Bit (evT ts V t i n):=by
 intro t
 induction t with
 | leaf=>
  intro i n hs hl h
  simp only [Ast.len] at hl
  simp only [wrongR] at h
  obtain ⟨hb,_⟩:=bad_if h
  unfold evT
  by_cases h1:(tkAt ts i).kind=1
  ·rw [if_pos h1]
   cases hn:nameT ts L i with
   | true=>exact hV i n (by omega) hn
   | false=>
    have hi:isR ts L i=110:=by unfold isR;rw [if_pos h1,hn];rfl
    unfold badR at hb;rw [hi] at hb;cases hb
  ·rw [if_neg h1]
   have h2:litT (tkAt ts i)=true:=by
    have:=hs.1
    unfold leafT at this
    have hk:((tkAt ts i).kind == 1)=false:=by simpa using h1
    rwa [hk,Bool.or_false] at this
   exact lit_bit hF h2 hb
 | neg a iha=>
  intro i n hs hl h
  obtain ⟨h1,h2,h3,h4⟩:=hs
  simp only [Ast.len] at hl
  simp only [wrongR] at h
  have ha:=iha (i+2) n h3 (by omega) (bad_if h).2
  simp only [evT]
  rcases ha with ha | ha <;> rw [ha] <;> simp [Bit,w64,Go.RowKit.wrap64]
 | ite a b c iha ihb ihc=>
  intro i n hs hl h
  obtain ⟨h1,h2,h3,h4,h5,h6⟩:=hs
  simp only [Ast.len] at hl
  simp only [wrongR] at h
  obtain ⟨_,h⟩:=bad_if h
  obtain ⟨_,h⟩:=or_none h
  obtain ⟨hb,hc⟩:=or_none h
  simp only [evT]
  split
  ·exact ihb _ n h4 (by omega) hb
  ·exact ihc _ n h5 (by omega) hc
 | dly b ihb=>
  intro i n hs hl h
  obtain ⟨h1,h2,h3,h4,h5⟩:=hs
  simp only [Ast.len] at hl
  simp only [wrongR] at h
  obtain ⟨_,h⟩:=bad_if h
  obtain ⟨hb,hc⟩:=or_none h
  cases n with
  | zero=>simp only [evT];exact lit_bit hF h2 (bad_if hb).1
  | succ n=>simp only [evT];exact ihb _ n h4 (by omega) hc
 | bin a b iha ihb=>
  intro i n hs hl h
  obtain ⟨h1,h2,h3,h4,h5⟩:=hs
  obtain ⟨n1,n2⟩:=sp_first hF h2
  simp only [Ast.len] at hl
  simp only [wrongR] at h
  obtain ⟨hb,_⟩:=bad_if h
  have hbh:behindF ts (i+1)=i+1+a.len:=behind_sp hF a (i+1) h2 (by omega)
  have hi:isR ts L i=opR (lAt ts (i+1+a.len)):=by rw [isR_open hF h1,if_neg n1,if_neg n2,hbh]
  simp only [evT]
  refine op_truth h3 ?_ _ _
  unfold badR at hb
  rw [hi] at hb
  have hne:lAt ts (i+1+a.len)≠kFby:=fun e=>by rw [e] at h3;revert h3;decide
  unfold opR at hb ⊢
  rw [if_neg hne] at hb ⊢
  split at hb
  ·cases hb
  ·rename_i hx;rw [if_neg hx]
end
theorem nameT_of {ts:List Tk}{L:List Dl} (H:Right ts L) {k:Nat} (h:nameT ts L k=true):∃ j x,inIx ts L (lAt ts k)=none∧eqIx ts L (lAt ts k)=some j∧(eqL L)[j]? = some x∧x.kind=2:=by
 unfold nameT at h
 rw [List.any_eq_true] at h
 obtain ⟨x,hx,h2⟩:=h
 rw [Bool.and_eq_true,beq_iff_eq,beq_iff_eq] at h2
 obtain ⟨j,hj⟩:=ix_some (p:=nmIs ts (lAt ts k)) hx (by unfold nmIs;rw [h2.1];simp)
 obtain ⟨z,hz,hn⟩:=eqIx_some hj
 obtain ⟨m,hm,rfl⟩:=List.getElem_of_mem hx
 have hjm:=H.same hz (List.getElem?_eq_getElem hm) (hn.trans h2.1.symm)
 subst hjm
 refine ⟨j,_,?_,hj,List.getElem?_eq_getElem hm,h2.2⟩
 cases hi:inIx ts L (lAt ts k) with
 | none=>rfl
 | some i=>
  exfalso
  obtain ⟨g1,g2,_⟩:=List.findIdx?_eq_some_iff_getElem.1 hi
  have g3:(nameD ts (inL L)[i]).data.toList=lAt ts k:=by simpa [nmIs] using g2
  have m1:=List.mem_filter.1 (List.getElem_mem g1)
  have m2:=List.mem_filter.1 hx
  have e:=H.own _ m1.1 _ m2.1 (g3.trans h2.1.symm)
  have hp:=H.pw
  have k1:(inL L)[i].kind=0:=by simpa using m1.2
  have k2:(eqL L)[j].kind≠0:=by simpa using m2.2
  obtain ⟨a,ha,ea⟩:=List.getElem_of_mem m1.1
  obtain ⟨b,hb,eb⟩:=List.getElem_of_mem m2.1
  rw [List.pairwise_iff_getElem] at hp
  rw [← ea] at k1 e
  rw [← eb] at k2 e
  rcases Nat.lt_trichotomy a b with h | h | h
  ·have:=hp a b ha hb h;have:=L[a].len_pos;omega
  ·subst h;exact k2 k1
  ·have:=hp b a hb ha h;have:=L[b].len_pos;omega
theorem val_bit {ts:List Tk}{L:List Dl} (H:Right ts L) {ins:List (List Int)}{R:Nat→Nat→Int} (hR:∀ j n x,(eqL L)[j]? = some x→x.kind=2→Bit (R j n)):∀ k n,k<ts.length→nameT ts L k=true→Bit (valV ts L ins R (lAt ts k) n):=by
 intro k n _ h
 obtain ⟨j,x,h1,h2,h3,h4⟩:=nameT_of H h
 unfold valV
 rw [h1,h2]
 exact hR j n x h3 h4
theorem solF_bit {ts:List Tk}{L:List Dl} (H:Right ts L) (hT:typesR ts L=none) {ins:List (List Int)}:∀ f j n x,(eqL L)[j]? = some x→x.kind=2→Bit (solF ts L ins f j n):=by
 intro f
 induction f with
 | zero=>intro j n x _ _;exact .inl rfl
 | succ f ih=>
  intro j n x hx hk
  simp only [solF,bodyV,hx]
  obtain ⟨hs,hl⟩:=H.sp x (List.mem_of_getElem? hx)
  unfold typesR at hT
  rw [List.findSome?_eq_none_iff] at hT
  have hw:=hT x (List.mem_of_getElem? hx)
  rw [hk] at hw
  exact ev_bit H.F (val_bit H ih) x.t _ n hs hl hw
theorem sol_bit {ts:List Tk}{L:List Dl} (H:Right ts L) (hT:typesR ts L=none) {ins:List (List Int)} (j n:Nat) (x:Dl) (hx:(eqL L)[j]? = some x) (hk:x.kind=2):Bit (sol ts L ins j n):=solF_bit H hT _ j n x hx hk
def AllAt {α:Type} (P:Nat→α→Prop):Nat→List α→Prop
 | _,[]=>True
 | o,x :: l=>P o x∧AllAt P (o+1) l
theorem allAt_app {α:Type}{P:Nat→α→Prop}:∀ (l m:List α) (o:Nat),AllAt P o (l ++ m)↔AllAt P o l∧AllAt P (o+l.length) m:=by
 intro l
 induction l with
 | nil=>intro m o;simp [AllAt]
 | cons x l ih=>
  intro m o
  simp only [List.cons_append,AllAt,ih,List.length_cons]
  rw [show o+1+l.length=o+(l.length+1) by omega,and_assoc]
theorem allAt_get {α:Type}{P:Nat→α→Prop}:∀ (l:List α) (o:Nat),AllAt P o l↔∀ m x,l[m]? = some x→P (o+m) x:=by
 intro l
 induction l with
 | nil=>intro o;simp [AllAt]
 | cons x l ih=>
  intro o
  simp only [AllAt,ih]
  constructor
  ·rintro ⟨h1,h2⟩ m y hm
   cases m with
   | zero=>simp at hm;subst hm;exact h1
   | succ m=>have:=h2 m y (by simpa using hm);rwa [show o+1+m=o+(m+1) by omega] at this
  ·intro h
   refine ⟨h 0 x rfl,fun m y hm=>?_⟩
   have:=h (m+1) y (by simpa using hm)
   rwa [show o+(m+1)=o+1+m by omega] at this
theorem AllAt.mono {α:Type}{P Q:Nat→α→Prop} (h:∀ j x,P j x→Q j x):∀ (l:List α) (o:Nat),AllAt P o l→AllAt Q o l:=by
 intro l
 induction l with
 | nil=>intro o _;trivial
 | cons x l ih=>intro o hp;exact ⟨h _ _ hp.1,ih _ hp.2⟩
def numAt (ds:List Dc) (i:Int):Nat:=(ds.getD i.toNat ⟨0,0,⟨#[]⟩,0,0,0,0⟩).number
def rootAt (ds:List Dc) (i:Int):Nat:=(ds.getD i.toNat ⟨0,0,⟨#[]⟩,0,0,0,0⟩).root
def pairF (op:Nat) (a b:Int):Int:=
 if op=5 then w64 (a+b) else if op=6 then w64 (a - b) else if op=7 then w64 (a * b)
 else if op=8 then (if b=0 then 0 else if b = -1 then w64 (0 - a) else w64 (a.tdiv b)) else if op=9 then b2i (decide (a<b)) else if op=10 then b2i (decide (a=b))
 else if op=11 then b2i (decide (a≠0) && decide (b≠0)) else if op=12 then b2i (decide (a≠0) || decide (b≠0)) else 0
def nameF (ds:List Dc) (ins:List (List Int)) (b:Int) (k:Nat) (X:Nat→Int):Int:=if kindAt ds b=0 then elemF ins (numAt ds b) k else X (rootAt ds b)
def valF (ds:List Dc) (ins:List (List Int)) (n:Nd) (k:Nat) (X Y:Nat→Int):Int:=
 if n.kind=2 then nameF ds ins n.decl k X
 else if n.kind=3 then b2i (decide (X n.a=0))
 else if n.kind=4 then (if X n.a≠0 then X n.b else X n.c)
 else if n.kind=5 then (if k=0 then X n.a else Y n.b)
 else if n.kind=6 then pairF n.op (X n.a) (X n.b)
 else (n.value:Int)
def needs (n:Nd):List Nat:=
 if n.kind=3 then [n.a] else if n.kind=4 then [n.a,n.b,n.c] else if n.kind=5 then [n.a] else if n.kind=6 then [n.a,n.b] else []
def flatV (ts:List Tk) (V:List UInt8→Nat→Int) (k:Nat):Ast→Nat→List Int
 | .leaf,i=>[evT ts V .leaf i k]
 | .neg a,i=>evT ts V (.neg a) i k :: flatV ts V k a (i+2)
 | .ite a b c,i=>evT ts V (.ite a b c) i k :: (flatV ts V k a (i+2) ++ (flatV ts V k b (i+2+a.len) ++ flatV ts V k c (i+2+a.len+b.len)))
 | .dly b,i=>evT ts V (.dly b) i k :: litV (tkAt ts (i+1)) :: flatV ts V k b (i+3)
 | .bin a b,i=>evT ts V (.bin a b) i k :: (flatV ts V k a (i+1) ++ flatV ts V k b (i+2+a.len))
theorem flatV_len (ts:List Tk) (V:List UInt8→Nat→Int) (k:Nat):∀ (t:Ast) (i:Nat),(flatV ts V k t i).length=t.size:=by
 intro t
 induction t with
 | leaf=>intro i;rfl
 | neg a iha=>intro i;simp [flatV,Ast.size,iha]
 | ite a b c iha ihb ihc=>intro i;simp [flatV,Ast.size,iha,ihb,ihc];omega
 | dly b ihb=>intro i;simp [flatV,Ast.size,ihb]
 | bin a b iha ihb=>intro i;simp [flatV,Ast.size,iha,ihb]
theorem flatV_head {ts:List Tk}{V:List UInt8→Nat→Int}{k:Nat}{X:Nat→Int}:∀ {t:Ast}{i o:Nat},AllAt (fun j v=>X j=v) o (flatV ts V k t i)→X o=evT ts V t i k:=by
 intro t i o h
 cases t <;> exact h.1
theorem op_some {o:List UInt8} (h:(opOf o).isSome=true):o=[43]∨o=[45]∨o=[42]∨o=[47]∨o=[60]∨o=[61]∨o=[38]∨o=[124]:=by
 revert h
 unfold opOf
 split;· rename_i e;intro _;exact .inl e
 split;· rename_i e;intro _;exact .inr (.inl e)
 split;· rename_i e;intro _;exact .inr (.inr (.inl e))
 split;· rename_i e;intro _;exact .inr (.inr (.inr (.inl e)))
 split;· rename_i e;intro _;exact .inr (.inr (.inr (.inr (.inl e))))
 split;· rename_i e;intro _;exact .inr (.inr (.inr (.inr (.inr (.inl e)))))
 split;· rename_i e;intro _;exact .inr (.inr (.inr (.inr (.inr (.inr (.inl e))))))
 split;· rename_i e;intro _;exact .inr (.inr (.inr (.inr (.inr (.inr (.inr e))))))
 ·intro h;cases h
theorem pair_ap {o:List UInt8} (h:(opOf o).isSome=true) {a b:Int} (hb:o=[38]∨o=[124]→Bit a∧Bit b):apF o a b=pairF ((opOf o).getD 0) a b:=by
 rcases op_some h with rfl | rfl | rfl | rfl | rfl | rfl | rfl | rfl
 ·rfl
 ·rfl
 ·rfl
 ·show (if b=0 then 0 else w64 (a.tdiv b))=(if b=0 then 0 else if b = -1 then w64 (0 - a) else w64 (a.tdiv b))
  by_cases h0:b=0
  ·rw [if_pos h0,if_pos h0]
  ·rw [if_neg h0,if_neg h0]
   by_cases h1:b = -1
   ·rw [if_pos h1,h1]
    congr 1
    rw [Int.tdiv_neg,Int.tdiv_one];omega
   ·rw [if_neg h1]
 ·rfl
 ·rfl
 ·obtain ⟨h1,h2⟩:=hb (.inl rfl)
  rcases h1 with rfl | rfl <;> rcases h2 with rfl | rfl <;> decide
 ·obtain ⟨h1,h2⟩:=hb (.inr rfl)
  rcases h1 with rfl | rfl <;> rcases h2 with rfl | rfl <;> decide
section
variable {ds:List Dc} {ins:List (List Int)} {n:Nd} {k:Nat} {X Y:Nat→Int}
theorem valF3 (h:n.kind=3):valF ds ins n k X Y=b2i (decide (X n.a=0)):=by unfold valF;rw [if_neg (by omega),if_pos h]
theorem valF4 (h:n.kind=4):valF ds ins n k X Y=if X n.a≠0 then X n.b else X n.c:=by unfold valF;rw [if_neg (by omega),if_neg (by omega),if_pos h]
theorem valF5 (h:n.kind=5):valF ds ins n k X Y=if k=0 then X n.a else Y n.b:=by unfold valF;rw [if_neg (by omega),if_neg (by omega),if_neg (by omega),if_pos h]
theorem valF6 (h:n.kind=6):valF ds ins n k X Y=pairF n.op (X n.a) (X n.b):=by unfold valF;rw [if_neg (by omega),if_neg (by omega),if_neg (by omega),if_neg (by omega),if_pos h]
end
theorem bind_other {ds:List Dc}{n:Nd} (h:n.kind≠2):bindF ds n=n:=by unfold bindF;rw [if_neg h]
section
variable {ts:List Tk} (hF:∀ i,TkF (tkAt ts i)) {L:List Dl} {ds:List Dc} {ins:List (List Int)} {V:List UInt8→Nat→Int} {k:Nat} {X Y:Nat→Int}
include hF
theorem lit_val {i dl:Nat} (h:litT (tkAt ts i)=true):litV (tkAt ts i)=valF ds ins (bindF ds (mkN ts i dl (leafN0 (tkAt ts i)))) k X Y:=by
 have hlf:leafT (tkAt ts i)=true:=by unfold leafT;rw [h];rfl
 have hk1:(tkAt ts i).kind≠1:=by have:=lit_nm hF h;unfold isNm at this;simpa using this
 have hk:=leafN0_no hlf hk1
 rw [bind_other (by rw [mkN_kind];exact hk)]
 unfold litV
 by_cases h3:(tkAt ts i).kind=3
 ·have hn:∀ l,kwL.contains l=true→(tkAt ts i).l≠l:=fun l hl e=>by have:=(hF i).k3 h3;rw [e,hl] at this;cases this
  have hl:leafN0 (tkAt ts i) = { ndZero with kind:=0,value:=valOf (tkAt ts i).l }:=by
   unfold leafN0;rw [if_neg (hn _ (by decide)),if_neg (hn _ (by decide)),if_pos h3]
  rw [if_pos h3,hl];rfl
 ·rw [if_neg h3]
  unfold litT at h
  have h30:((tkAt ts i).kind == 3)=false:=by simpa using h3
  rw [h30,Bool.false_or,Bool.or_eq_true,beq_iff_eq,beq_iff_eq] at h
  by_cases e:(tkAt ts i).l=kTrue
  ·have hl:leafN0 (tkAt ts i) = { ndZero with kind:=1,value:=1 }:=by unfold leafN0;rw [if_pos e]
   rw [hl,e];rfl
  ·have e2:=h.resolve_left e
   have hl:leafN0 (tkAt ts i) = { ndZero with kind:=1 }:=by unfold leafN0;rw [if_neg e,if_pos e2]
   rw [hl,e2];rfl
theorem flat_val (hV:∀ k n,k<ts.length→nameT ts L k=true→Bit (V (lAt ts k) n)) :
  ∀ (t:Ast) (i dl off w:Nat),Sp ts t i→i+t.len≤ts.length→wrongR ts L t i w=none→
   (∀ j∈nms ts t i,V (lAt ts j) k=nameF ds ins (findF ds (tkAt ts j).text) k X)→
   AllAt (fun j v=>X j=v) off (flatV ts V k t i)→(k≠0→AllAt (fun j v=>Y j=v) off (flatV ts V (k - 1) t i))→
   AllAt (fun j n=>X j=valF ds ins (bindF ds n) k X Y) off (flat ts t i dl off):=by
 intro t
 induction t with
 | leaf=>
  intro i dl off w hs hl hw hn hX hY
  refine ⟨?_,trivial⟩
  show X off=valF ds ins (bindF ds (mkN ts i dl (leafN0 (tkAt ts i)))) k X Y
  rw [hX.1]
  by_cases h1:(tkAt ts i).kind=1
  ·have hb:bindF ds (mkN ts i dl (leafN0 (tkAt ts i))) = { mkN ts i dl (leafN0 (tkAt ts i)) with decl:=findF ds (tkAt ts i).text }:=by
    rw [leafN0_name (hF i) h1];unfold bindF;rw [if_pos (by rfl)];rfl
   rw [hb]
   have hk2:(leafN0 (tkAt ts i)).kind=2:=by rw [leafN0_name (hF i) h1]
   unfold evT valF
   rw [if_pos h1,if_pos (show ({ mkN ts i dl (leafN0 (tkAt ts i)) with decl:=findF ds (tkAt ts i).text }:Nd).kind=2 from hk2)]
   exact hn i (by unfold nms;rw [if_pos h1];simp)
  ·have h2:litT (tkAt ts i)=true:=by
    have:=hs.1
    unfold leafT at this
    have hk:((tkAt ts i).kind == 1)=false:=by simpa using h1
    rwa [hk,Bool.or_false] at this
   unfold evT
   rw [if_neg h1]
   exact lit_val hF h2
 | neg a iha=>
  intro i dl off w hs hl hw hn hX hY
  obtain ⟨h1,h2,h3,h4⟩:=hs
  simp only [Ast.len] at hl
  simp only [wrongR] at hw
  have ha:=ev_bit hF hV a (i+2) k h3 (by omega) (bad_if hw).2
  refine ⟨?_,iha (i+2) dl (off+1) 116 h3 (by omega) (bad_if hw).2 hn hX.2 (fun h=>(hY h).2)⟩
  show X off=valF ds ins (bindF ds (mkN ts i dl { ndZero with kind:=3,a:=off+1 })) k X Y
  rw [hX.1,bind_other (by simp [mkN]),valF3 rfl]
  have e1:=flatV_head hX.2
  show w64 (1 - evT ts V a (i+2) k)=b2i (decide (X (off+1)=0))
  rw [e1]
  rcases ha with ha | ha <;> rw [ha] <;> rw [w64_id _ (by decide) (by decide)] <;> decide
 | ite a b c iha ihb ihc=>
  intro i dl off w hs hl hw hn hX hY
  obtain ⟨h1,h2,h3,h4,h5,h6⟩:=hs
  simp only [Ast.len] at hl
  simp only [wrongR] at hw
  obtain ⟨_,hw⟩:=bad_if hw
  obtain ⟨wa,hw⟩:=or_none hw
  obtain ⟨wb,wc⟩:=or_none hw
  have ha:=ev_bit hF hV a (i+2) k h3 (by omega) wa
  obtain ⟨x0,hX⟩:=hX
  rw [allAt_app,allAt_app,flatV_len,flatV_len] at hX
  obtain ⟨xa,xb,xc⟩:=hX
  have hY':k≠0→AllAt (fun j v=>Y j=v) (off+1) (flatV ts V (k - 1) a (i+2))∧AllAt (fun j v=>Y j=v) (off+1+a.size) (flatV ts V (k - 1) b (i+2+a.len))∧AllAt (fun j v=>Y j=v) (off+1+a.size+b.size) (flatV ts V (k - 1) c (i+2+a.len+b.len)):=fun h=>by
   have:=(hY h).2
   rwa [allAt_app,allAt_app,flatV_len,flatV_len] at this
  simp only [nms,List.mem_append] at hn
  simp only [flat,AllAt]
  rw [allAt_app,allAt_app,flat_len,flat_len]
  refine ⟨?_,iha _ dl _ 116 h3 (by omega) wa (fun j hj=>hn j (.inl hj)) xa (fun h=>(hY' h).1),ihb _ dl _ w h4 (by omega) wb (fun j hj=>hn j (.inr (.inl hj))) xb (fun h=>(hY' h).2.1),ihc _ dl _ w h5 (by omega) wc (fun j hj=>hn j (.inr (.inr hj))) xc (fun h=>(hY' h).2.2)⟩
  rw [x0,bind_other (by simp [mkN]),valF4 rfl]
  have e1:=flatV_head xa
  have e2:=flatV_head xb
  have e3:=flatV_head xc
  show (if evT ts V a (i+2) k=1 then evT ts V b (i+2+a.len) k else evT ts V c (i+2+a.len+b.len) k)=if X (off+1)≠0 then X (off+1+a.size) else X (off+1+a.size+b.size)
  rw [e1,e2,e3]
  rcases ha with ha | ha <;> rw [ha] <;> rfl
 | dly b ihb=>
  intro i dl off w hs hl hw hn hX hY
  obtain ⟨h1,h2,h3,h4,h5⟩:=hs
  simp only [Ast.len] at hl
  simp only [wrongR] at hw
  obtain ⟨_,hw⟩:=bad_if hw
  obtain ⟨hb,hc⟩:=or_none hw
  obtain ⟨x0,x1,x2⟩:=hX
  refine ⟨?_,?_,ihb (i+3) (dl+1) (off+2) w h4 (by omega) hc hn x2 (fun h=>(hY h).2.2)⟩
  ·show X off=valF ds ins (bindF ds (mkN ts i dl { ndZero with kind:=5,a:=off+1,b:=off+2 })) k X Y
   rw [x0,bind_other (by simp [mkN]),valF5 rfl]
   show _=if k=0 then X (off+1) else Y (off+2)
   cases k with
   | zero=>rw [if_pos rfl,x1];rfl
   | succ n=>
    rw [if_neg (by omega)]
    have:=(hY (by omega)).2.2
    rw [flatV_head this];rfl
  ·show X (off+1)=valF ds ins (bindF ds (mkN ts (i+1) dl (leafN0 (tkAt ts (i+1))))) k X Y
   rw [x1];exact lit_val hF h2
 | bin a b iha ihb=>
  intro i dl off w hs hl hw hn hX hY
  obtain ⟨h1,h2,h3,h4,h5⟩:=hs
  simp only [Ast.len] at hl
  simp only [wrongR] at hw
  obtain ⟨_,hw⟩:=bad_if hw
  obtain ⟨wa,wb⟩:=or_none hw
  obtain ⟨x0,hX⟩:=hX
  rw [allAt_app,flatV_len] at hX
  obtain ⟨xa,xb⟩:=hX
  have hY':k≠0→AllAt (fun j v=>Y j=v) (off+1) (flatV ts V (k - 1) a (i+1))∧AllAt (fun j v=>Y j=v) (off+1+a.size) (flatV ts V (k - 1) b (i+2+a.len)):=fun h=>by
   have:=(hY h).2
   rwa [allAt_app,flatV_len] at this
  simp only [nms,List.mem_append] at hn
  simp only [flat,AllAt]
  rw [allAt_app,flat_len]
  refine ⟨?_,iha _ dl _ _ h2 (by omega) wa (fun j hj=>hn j (.inl hj)) xa (fun h=>(hY' h).1),ihb _ dl _ _ h4 (by omega) wb (fun j hj=>hn j (.inr hj)) xb (fun h=>(hY' h).2)⟩
  rw [x0,bind_other (by simp [mkN]),valF6 rfl]
  have e1:=flatV_head xa
  have e2:=flatV_head xb
  show apF (lAt ts (i+1+a.len)) (evT ts V a (i+1) k) (evT ts V b (i+2+a.len) k)=pairF ((opOf (lAt ts (i+1+a.len))).getD 0) (X (off+1)) (X (off+1+a.size))
  rw [e1,e2]
  refine pair_ap h3 fun ho=>?_
  have hbo:bothR (lAt ts (i+1+a.len))=116:=by unfold bothR;rw [if_pos ho]
  rw [hbo] at wa wb
  exact ⟨ev_bit hF hV a _ k h2 (by omega) wa,ev_bit hF hV b _ k h4 (by omega) wb⟩
end
theorem flat_head {ts:List Tk}:∀ (t:Ast) (i dl off:Nat),∃ n l,flat ts t i dl off=n :: l∧n.delayed=decide (0<dl):=by
 intro t i dl off
 cases t <;> exact ⟨_,_,rfl,rfl⟩
theorem flat_first {ts:List Tk}{D:Nat→Bool}{t:Ast}{i dl off:Nat} (h:AllAt (fun j n=>D j=n.delayed) off (flat ts t i dl off)):D off=decide (0<dl):=by
 obtain ⟨n,l,e,hn⟩:=flat_head t i dl off (ts:=ts)
 rw [e] at h
 rw [h.1,hn]
theorem leafN0_needs {ts:List Tk} (i dl:Nat) (t:Tk):needs (mkN ts i dl (leafN0 t))=[]:=by
 have:(mkN ts i dl (leafN0 t)).kind≤2:=by
  rw [mkN_kind]
  unfold leafN0
  split;· simp
  split;· simp
  split;· simp
  ·simp
 unfold needs
 rw [if_neg (by omega),if_neg (by omega),if_neg (by omega),if_neg (by omega)]
theorem flat_kids {ts:List Tk}{D:Nat→Bool}:∀ (t:Ast) (i dl off fin:Nat),off+t.size≤fin→AllAt (fun j n=>D j=n.delayed) off (flat ts t i dl off)→
  AllAt (fun j n=>∀ c∈needs n,j<c∧c<fin∧D c=n.delayed) off (flat ts t i dl off):=by
 intro t
 induction t with
 | leaf=>intro i dl off fin hf h;exact ⟨fun c hc=>by rw [leafN0_needs] at hc;simp at hc,trivial⟩
 | neg a iha=>
  intro i dl off fin hf h
  simp only [Ast.size] at hf
  have pa:=a.size_pos
  refine ⟨fun c hc=>?_,iha _ dl _ fin (by omega) h.2⟩
  have hc':c=off+1:=by simpa [needs,mkN] using hc
  subst hc'
  exact ⟨by omega,by omega,flat_first h.2⟩
 | ite a b c iha ihb ihc=>
  intro i dl off fin hf h
  simp only [Ast.size] at hf
  have pa:=a.size_pos
  have pb:=b.size_pos
  have pc:=c.size_pos
  obtain ⟨h0,h⟩:=h
  rw [allAt_app,allAt_app,flat_len,flat_len] at h
  obtain ⟨ha,hb,hc⟩:=h
  simp only [flat,AllAt]
  rw [allAt_app,allAt_app,flat_len,flat_len]
  refine ⟨fun d hd=>?_,iha _ dl _ fin (by omega) ha,ihb _ dl _ fin (by omega) hb,ihc _ dl _ fin (by omega) hc⟩
  have hd':d=off+1∨d=off+1+a.size∨d=off+1+a.size+b.size:=by simpa [needs,mkN] using hd
  rcases hd' with rfl | rfl | rfl
  ·exact ⟨by omega,by omega,flat_first ha⟩
  ·exact ⟨by omega,by omega,flat_first hb⟩
  ·exact ⟨by omega,by omega,flat_first hc⟩
 | dly b ihb=>
  intro i dl off fin hf h
  simp only [Ast.size] at hf
  refine ⟨fun c hc=>?_,fun c hc=>by rw [leafN0_needs] at hc;simp at hc,ihb _ (dl+1) _ fin (by omega) h.2.2⟩
  have hc':c=off+1:=by simpa [needs,mkN] using hc
  subst hc'
  exact ⟨by omega,by omega,h.2.1⟩
 | bin a b iha ihb=>
  intro i dl off fin hf h
  simp only [Ast.size] at hf
  have pa:=a.size_pos
  have pb:=b.size_pos
  obtain ⟨h0,h⟩:=h
  rw [allAt_app,flat_len] at h
  obtain ⟨ha,hb⟩:=h
  simp only [flat,AllAt]
  rw [allAt_app,flat_len]
  refine ⟨fun d hd=>?_,iha _ dl _ fin (by omega) ha,ihb _ dl _ fin (by omega) hb⟩
  have hd':d=off+1∨d=off+1+a.size:=by simpa [needs,mkN] using hd
  rcases hd' with rfl | rfl
  ·exact ⟨by omega,by omega,flat_first ha⟩
  ·exact ⟨by omega,by omega,flat_first hb⟩
def dlAt (ns:List Nd) (j:Nat):Bool:=((ns[j]?).map Nd.delayed).getD false
structure Meant (ds:List Dc) (ns:List Nd) (ins:List (List Int)) (NV:Nat→Nat→Int):Prop where
 cover:∀ i,i<ns.length→∃ (a:Nat) (d:Dc),ds[a]? = some d∧d.kind≠0∧d.root≤i∧i<d.fin
 val:∀ (i:Nat) (n:Nd),ns[i]? = some n→∀ k,NV k i=valF ds ins n k (NV k) (NV (k - 1))
 kids:∀ (a:Nat) (d:Dc),ds[a]? = some d→d.kind≠0→∀ (i:Nat) (n:Nd),ns[i]? = some n→d.root≤i→i<d.fin→∀ c∈needs n,i<c∧c<d.fin∧dlAt ns c=n.delayed
 root:∀ (a:Nat) (d:Dc),ds[a]? = some d→d.kind≠0→d.root<ns.length∧dlAt ns d.root=false
 segs:∀ (a:Nat) (d:Dc),ds[a]? = some d→d.kind≠0→d.root<d.fin∧d.fin≤ns.length
 decl:∀ n∈ns,n.kind=2→0≤n.decl∧n.decl<(ds.length:Int)
 hang:∀ (a:Nat) (d:Dc),ds[a]? = some d→d.kind≠0→∀ (i:Nat) (n:Nd),ns[i]? = some n→d.root≤i→i<d.fin→n.kind=2→n.delayed=false→kindAt ds n.decl≠0→markAll ds ns 0 ds noM a n.decl.toNat=true
structure Ranked (ds:List Dc) (H:Mx) (rank:Nat→Nat):Prop where
 less:∀ a b,H a b=true→rank b<rank a∧∃ d,ds[b]? = some d∧d.kind≠0
 lt:∀ (a:Nat) (d:Dc),ds[a]? = some d→d.kind≠0→rank a<ds.length
structure OrdOk (ds:List Dc) (H:Mx) (T:List Nat):Prop where
 eqn:∀ t∈T,∃ d,ds[t]? = some d∧d.kind≠0
 topo:∀ (j t:Nat),T[j]? = some t→∀ b,H t b=true→b∈T.take j
 all:∀ (a:Nat) (d:Dc),ds[a]? = some d→d.kind≠0→a∈T
 len:T.length≤300
def valsD (ts:List Tk) (V:List UInt8→Nat→Int) (k:Nat):List Dl→List Int
 | []=>[]
 | x :: r=>if x.kind=0 then valsD ts V k r else flatV ts V k x.t (x.i+5) ++ valsD ts V k r
structure DY (ts:List Tk) (f:Nd→Nd) (ns:List Nd) (V:List UInt8→Nat→Int) (VL:Nat→List Int) (d:Dc) (x:Dl):Prop where
 kind:d.kind=x.kind
 name:d.name=nameD ts x
 zero:x.kind=0→d.root=0∧d.fin=0
 fin:x.kind≠0→d.fin=d.root+x.t.size
 nodes:x.kind≠0→AllAt (fun j n=>ns[j]? = some (f n)) d.root (flat ts x.t (x.i+5) 0 d.root)
 vals:x.kind≠0→∀ k,AllAt (fun j v=>(VL k).getD j 0=v) d.root (flatV ts V k x.t (x.i+5))
theorem allAt_mid {α:Type} (A l B:List α):AllAt (fun j x=>(A ++ (l ++ B))[j]? = some x) A.length l:=by
 rw [allAt_get]
 intro m x hm
 have h:=(List.getElem?_eq_some_iff.1 hm).1
 rw [List.getElem?_append_right (by omega),Nat.add_sub_cancel_left,List.getElem?_append_left h]
 exact hm
theorem allAt_map {α β:Type}{P:Nat→β→Prop} (f:α→β):∀ (l:List α) (o:Nat),AllAt P o (l.map f)→AllAt (fun j x=>P j (f x)) o l:=by
 intro l
 induction l with
 | nil=>intro o _;trivial
 | cons x l ih=>intro o h;exact ⟨h.1,ih _ h.2⟩
theorem dy_all (ts:List Tk) (f:Nd→Nd) (V:List UInt8→Nat→Int):∀ (L:List Dl) (off a b:Nat) (N1:List Nd) (W1:Nat→List Int),N1.length=off→(∀ k,(W1 k).length=off)→
  All2 (DY ts f (N1 ++ (nodesD ts L off).map f) V (fun k=>W1 k ++ valsD ts V k L)) (declsD ts L off a b) L:=by
 intro L
 induction L with
 | nil=>intro off a b N1 W1 _ _;trivial
 | cons x r ih=>
  intro off a b N1 W1 hN hW
  simp only [declsD,nodesD,valsD]
  by_cases hk:x.kind=0
  ·simp only [if_pos hk]
   exact ⟨⟨hk.symm,rfl,fun _=>⟨rfl,rfl⟩,fun h=>absurd hk h,fun h=>absurd hk h,fun h=>absurd hk h⟩,ih off (a+1) b N1 W1 hN hW⟩
  ·simp only [if_neg hk]
   refine ⟨⟨rfl,rfl,fun h=>absurd h hk,fun _=>rfl,fun _=>?_,fun _ k=>?_⟩,?_⟩
   ·rw [List.map_append]
    show AllAt _ off _
    rw [← hN]
    exact allAt_map f _ _ (allAt_mid N1 _ _)
   ·show AllAt _ off _
    rw [← hW k]
    refine AllAt.mono (fun j v h=>?_) _ _ (allAt_mid (W1 k) (flatV ts V k x.t (x.i+5)) (valsD ts V k r))
    rw [List.getD_eq_getElem?_getD,h];rfl
   ·have:=ih (off+x.t.size) a (b+1) (N1 ++ (flat ts x.t (x.i+5) 0 off).map f) (fun k=>W1 k ++ flatV ts V k x.t (x.i+5)) (by simp [flat_len,hN]) (fun k=>by simp [flatV_len,hW k])
    rw [List.append_assoc,← List.map_append] at this
    simpa only [List.append_assoc] using this
theorem decls_num (ts:List Tk):∀ (L:List Dl) (off a b k:Nat) (d:Dc) (x:Dl),(declsD ts L off a b)[k]? = some d→L[k]? = some x→
  (x.kind=0→∃ m,d.number=a+m∧(inL L)[m]? = some x)∧(x.kind≠0→∃ m,d.number=b+m∧(eqL L)[m]? = some x):=by
 intro L
 induction L with
 | nil=>intro off a b k d x _ h;simp at h
 | cons y r ih=>
  intro off a b k d x h1 h2
  simp only [declsD] at h1
  by_cases hy:y.kind=0
  ·rw [if_pos hy] at h1
   have e1:inL (y :: r)=y :: inL r:=by simp [inL,hy]
   have e2:eqL (y :: r)=eqL r:=by simp [eqL,hy]
   rw [e1,e2]
   cases k with
   | zero=>
    simp only [List.getElem?_cons_zero,Option.some.injEq] at h1 h2
    subst h1 h2
    exact ⟨fun _=>⟨0,rfl,rfl⟩,fun h=>absurd hy h⟩
   | succ k=>
    rw [List.getElem?_cons_succ] at h1 h2
    obtain ⟨g1,g2⟩:=ih _ _ _ k d x h1 h2
    refine ⟨fun h=>?_,g2⟩
    obtain ⟨m,hm,hg⟩:=g1 h
    exact ⟨m+1,by omega,by rw [List.getElem?_cons_succ];exact hg⟩
  ·rw [if_neg hy] at h1
   have e1:inL (y :: r)=inL r:=by simp [inL,hy]
   have e2:eqL (y :: r)=y :: eqL r:=by simp [eqL,hy]
   rw [e1,e2]
   cases k with
   | zero=>
    simp only [List.getElem?_cons_zero,Option.some.injEq] at h1 h2
    subst h1 h2
    exact ⟨fun h=>absurd h hy,fun _=>⟨0,rfl,rfl⟩⟩
   | succ k=>
    rw [List.getElem?_cons_succ] at h1 h2
    obtain ⟨g1,g2⟩:=ih _ _ _ k d x h1 h2
    refine ⟨g1,fun h=>?_⟩
    obtain ⟨m,hm,hg⟩:=g2 h
    exact ⟨m+1,by omega,by rw [List.getElem?_cons_succ];exact hg⟩
theorem Right.one {ts:List Tk}{L:List Dl} (H:Right ts L) {a b:Nat}{x y:Dl} (hx:L[a]? = some x) (hy:L[b]? = some y) (he:(nameD ts x).data.toList=(nameD ts y).data.toList):a=b:=by
 have hi:=H.own x (List.mem_of_getElem? hx) y (List.mem_of_getElem? hy) he
 obtain ⟨h1,rfl⟩:=List.getElem?_eq_some_iff.1 hx
 obtain ⟨h2,rfl⟩:=List.getElem?_eq_some_iff.1 hy
 have hp:=H.pw
 rw [List.pairwise_iff_getElem] at hp
 rcases Nat.lt_trichotomy a b with h | h | h
 ·have:=hp a b h1 h2 h;have:=L[a].len_pos;omega
 ·exact h
 ·have:=hp b a h2 h1 h;have:=L[b].len_pos;omega
theorem Right.sameIn {ts:List Tk}{L:List Dl} (H:Right ts L) {i j:Nat}{x y:Dl} (hx:(inL L)[i]? = some x) (hy:(inL L)[j]? = some y) (he:(nameD ts x).data.toList=(nameD ts y).data.toList):i=j:=by
 have mx:x∈L:=(List.mem_filter.1 (List.mem_of_getElem? hx)).1
 have my:y∈L:=(List.mem_filter.1 (List.mem_of_getElem? hy)).1
 have hi:=H.own x mx y my he
 obtain ⟨h1,rfl⟩:=List.getElem?_eq_some_iff.1 hx
 obtain ⟨h2,rfl⟩:=List.getElem?_eq_some_iff.1 hy
 have hp:(inL L).Pairwise (fun x y=>x.i+x.len≤y.i):=H.pw.filter _
 rw [List.pairwise_iff_getElem] at hp
 rcases Nat.lt_trichotomy i j with h | h | h
 ·have:=hp i j h1 h2 h;have:=(inL L)[i].len_pos;omega
 ·exact h
 ·have:=hp j i h2 h1 h;have:=(inL L)[j].len_pos;omega
theorem val_in {ts:List Tk}{L:List Dl} (H:Right ts L) {ins:List (List Int)}{R:Nat→Nat→Int}{m:Nat}{x:Dl} (hx:(inL L)[m]? = some x) (n:Nat):valV ts L ins R (nameD ts x).data.toList n=elemF ins m n:=by
 obtain ⟨j,hj⟩:=ix_some (p:=nmIs ts (nameD ts x).data.toList) (List.mem_of_getElem? hx) (by unfold nmIs;simp)
 have hj':inIx ts L (nameD ts x).data.toList=some j:=hj
 obtain ⟨g1,g2,_⟩:=List.findIdx?_eq_some_iff_getElem.1 hj
 have:=H.sameIn (List.getElem?_eq_getElem g1) hx (by simpa [nmIs] using g2)
 subst this
 unfold valV
 rw [hj']
theorem val_eq {ts:List Tk}{L:List Dl} (H:Right ts L) {ins:List (List Int)}{R:Nat→Nat→Int}{m:Nat}{x:Dl} (hx:(eqL L)[m]? = some x) (n:Nat):valV ts L ins R (nameD ts x).data.toList n=R m n:=by
 obtain ⟨j,hj⟩:=ix_some (p:=nmIs ts (nameD ts x).data.toList) (List.mem_of_getElem? hx) (by unfold nmIs;simp)
 have hj':eqIx ts L (nameD ts x).data.toList=some j:=hj
 obtain ⟨z,hz,hn⟩:=eqIx_some hj'
 have:=H.same hz hx hn
 subst this
 have hi:inIx ts L (nameD ts x).data.toList=none:=by
  cases hi:inIx ts L (nameD ts x).data.toList with
  | none=>rfl
  | some i=>
   exfalso
   obtain ⟨g1,g2,_⟩:=List.findIdx?_eq_some_iff_getElem.1 hi
   have g3:(nameD ts (inL L)[i]).data.toList=(nameD ts x).data.toList:=by simpa [nmIs] using g2
   have m1:=List.mem_filter.1 (List.getElem_mem g1)
   have m2:=List.mem_filter.1 (List.mem_of_getElem? hx)
   obtain ⟨a,ha,ea⟩:=List.getElem_of_mem m1.1
   obtain ⟨b,hb,eb⟩:=List.getElem_of_mem m2.1
   have hab:=H.one (List.getElem?_eq_getElem ha) (List.getElem?_eq_getElem hb) (by rw [ea,eb];exact g3)
   subst hab
   rw [ea] at eb
   have k1:(inL L)[i].kind=0:=by simpa using m1.2
   have k2:x.kind≠0:=by simpa using m2.2
   exact k2 (by rw [← eb];exact k1)
 unfold valV
 rw [hi,hj']
structure Both2 (ts:List Tk) (L:List Dl) (ds:List Dc) (ns:List Nd):Prop where
 N:NamesOk ts L ds
 sp:∀ x∈L,x.kind≠0→Sp ts x.t (x.i+5)∧x.i+5+x.t.len≤ts.length
 decl:∀ x∈L,x.kind≠0→∀ y∈nmD ts x.t (x.i+5) false,0≤findF ds (tkAt ts y.1).text
 dx:All2 (DX ts (bindF ds) ns) ds L
theorem both2 {ts:List Tk} (hF:∀ i,TkF (tkAt ts i)) (hE:∀ i,(tkAt ts i).kind=0→ts.length≤i+1) (L:List Dl) (hL:Spell ts L 0) (hn:namesR ts L=none) :
  Both2 ts L (declsD ts L 0 0 0) ((nodesD ts L 0).map (bindF (declsD ts L 0 0 0))):=by
 obtain ⟨ds,hds⟩:∃ ds,ds=declsD ts L 0 0 0:=⟨_,rfl⟩
 obtain ⟨ns,hns⟩:∃ ns,ns=(nodesD ts L 0).map (bindF ds):=⟨_,rfl⟩
 rw [← hds,← hns]
 have hnm:ds.map Dc.name=L.map (nameD ts):=by rw [hds];exact declsD_names ts L 0 0 0
 have hnames:badNameF ds ns 0 ds=namesR ts L:=by
  have:=names_eq hF hE L hL ds hnm L [] 0 0 0 0 [] [] rfl hL (by omega) (by rw [List.nil_append];exact hds) rfl rfl
  rw [List.nil_append,← hns,← hds] at this
  exact this
 have hdx:All2 (DX ts (bindF ds) ns) ds L:=by
  have:=dx_all ts (bindF ds) L 0 0 0 [] rfl
  rw [List.nil_append,← hns,← hds] at this
  exact this
 rw [hn] at hnames
 have hN:NamesOk ts L ds:=⟨fun j hj=>by have:=badName_own ds 0 hnames j hj;rw [this,Nat.zero_add],dx_two hdx⟩
 have hsp:∀ x∈L,x.kind≠0→Sp ts x.t (x.i+5)∧x.i+5+x.t.len≤ts.length:=by
  intro x hx hk
  obtain ⟨_,h2,h3⟩:=spell_mem _ _ hL x hx
  have hlen:x.len=x.t.len+6:=by unfold Dl.len;rw [if_neg hk]
  refine ⟨?_,by omega⟩
  rcases h3 with ⟨h,_⟩ | ⟨_,_,_,_,_,h,_⟩
  ·exact absurd h hk
  ·exact h
 refine ⟨hN,hsp,?_,hdx⟩
 intro x hx hk y hy
 obtain ⟨k,hk2,rfl⟩:=List.getElem_of_mem hx
 rcases hdx.getOpt k with ⟨_,h2⟩ | ⟨d,z,h1,h2,h3⟩
 ·rw [List.getElem?_eq_getElem hk2] at h2;cases h2
 ·rw [List.getElem?_eq_getElem hk2] at h2
  cases h2
  have hnone:=badName_none ds 0 hnames d (List.mem_of_getElem? h1)
  obtain ⟨o,ho⟩:=h3.some hk
  have hmem:bindF ds (nmNd ts y)∈seg ns d.root d.fin:=by
   rw [ho]
   have:bindF ds (nmNd ts y)∈(((flat ts (L[k]'hk2).t ((L[k]'hk2).i+5) 0 o).map (bindF ds)).filter fun n=>n.kind == 2):=by
    rw [bind_filter,flat_names hF _ _ _ _ (hsp _ hx hk).1]
    exact List.mem_map.2 ⟨_,List.mem_map.2 ⟨y,hy,rfl⟩,rfl⟩
   exact (List.mem_filter.1 this).1
  have:=badNode_none _ hnone _ hmem (by rw [bind_nm];rfl)
  rw [bind_nm] at this
  exact this
theorem seg_get {ns:List Nd}{a b i:Nat} (h1:a≤i) (h2:i<b):(seg ns a b)[i - a]? = ns[i]?:=by
 unfold seg
 rw [List.getElem?_take,if_pos (by omega),List.getElem?_drop,Nat.add_sub_cancel' h1]
theorem mark_of {ds:List Dc}{ns:List Nd}{a i:Nat}{d:Dc}{n:Nd} (hd:ds[a]? = some d) (hn:ns[i]? = some n) (h1:d.root≤i) (h2:i<d.fin) (hk:n.kind=2) (hl:n.delayed=false) (hq:kindAt ds n.decl≠0):markAll ds ns 0 ds noM a n.decl.toNat=true:=by
 rw [markAll_eq,Nat.sub_zero,hd,Option.any_some]
 have:((seg ns d.root d.fin).any fun m=>m.kind == 2 && (!m.delayed && (kindAt ds m.decl != 0 && m.decl.toNat == n.decl.toNat)))=true:=by
  rw [List.any_eq_true]
  refine ⟨n,List.mem_of_getElem? ((seg_get h1 h2).trans hn),?_⟩
  simp [hk,hl,hq]
 rw [this];simp
theorem ranked_of {ts:List Tk}{L:List Dl} (H:Right ts L) {ds:List Dc}{ns:List Nd} (hB:Both2 ts L ds ns):Ranked ds (markAll ds ns 0 ds noM) (fun a=>rk ts L (cntE L a)):=by
 have hisE:∀ (a:Nat) (d:Dc),ds[a]? = some d→d.kind≠0→isE L a=true:=fun a d hd hk=>by
  rcases hB.dx.getOpt a with ⟨h1,_⟩ | ⟨d',x,h1,h2,h3⟩
  ·rw [h1] at hd;cases hd
  ·rw [hd] at h1;cases h1
   unfold isE;rw [h2];simp [← h3.kind,hk]
 have hlt:∀ a,isE L a=true→cntE L a<(eqL L).length:=fun a ha=>by
  have h1:=cntE_get L a ha
  cases h2:L[a]? with
  | none=>unfold isE at ha;rw [h2] at ha;simp at ha
  | some x=>rw [h2] at h1;exact (List.getElem?_eq_some_iff.1 h1).1
 constructor
 ·intro a b h
  have ha:isE L a=true:=by
   cases ha:isE L a with
   | true=>rfl
   | false=>rw [mark_none hB.dx a b ha] at h;cases h
  have hb:∃ d,ds[b]? = some d∧d.kind≠0:=by
   rw [markAll_eq,Nat.sub_zero] at h
   simp only [noM,Bool.false_or,Bool.and_eq_true] at h
   cases hd:ds[a]? with
   | none=>rw [hd] at h;simp at h
   | some d=>
    rw [hd,Option.any_some,List.any_eq_true] at h
    obtain ⟨n,_,hn⟩:=h.2
    simp only [Bool.and_eq_true,bne_iff_ne,beq_iff_eq] at hn
    obtain ⟨_,_,h3,h4⟩:=hn
    unfold kindAt at h3
    rw [h4,List.getD_eq_getElem?_getD] at h3
    cases hb:ds[b]? with
    | none=>rw [hb] at h3;exact absurd rfl h3
    | some e=>rw [hb] at h3;exact ⟨e,rfl,h3⟩
  obtain ⟨d,hd,hk⟩:=hb
  refine ⟨?_,d,hd,hk⟩
  have hb:=hisE b d hd hk
  rw [mark_rel H.F hB.N hB.sp hB.decl hB.dx a b ha hb] at h
  exact rk_less H.cyc (hlt b hb) h
 ·intro a d hd hk
  have h1:=hlt a (hisE a d hd hk)
  have h2:=rk_lt H.cyc h1
  have h3:(eqL L).length≤L.length:=List.length_filter_le _ _
  have h4:L.length=ds.length:=hB.dx.len
  show rk ts L (cntE L a)<ds.length
  omega
set_option maxHeartbeats 1000000 in
theorem meant_of {ts:List Tk}{L:List Dl} (H:Right ts L) (hT:typesR ts L=none) (ins:List (List Int)) {ds:List Dc}{ns:List Nd} (hds:ds=declsD ts L 0 0 0) (hns:ns=(nodesD ts L 0).map (bindF ds)) (hB:Both2 ts L ds ns)
  (hcov:∀ i,i<ns.length→∃ d∈ds,d.root≤i∧i<d.fin) (hsg:∀ d∈ds,(d.root=0∧d.fin=0∧d.kind=0)∨(d.root<d.fin∧d.fin≤ns.length)) (hdr:∀ n∈ns,n.kind=2→0≤n.decl∧n.decl<(ds.length:Int)) :
  ∃ NV,Meant ds ns ins NV∧∀ (j:Nat) (d:Dc) (k:Nat),(eqsF ds)[j]? = some d→NV k d.root=sol ts L ins j k:=by
 have hY:=dy_all ts (bindF ds) (valV ts L ins (sol ts L ins)) L 0 0 0 [] (fun _=>[]) rfl (fun _=>rfl)
 simp only [List.nil_append] at hY
 rw [← hds,← hns] at hY
 have hat:∀ (a:Nat) (d:Dc),ds[a]? = some d→∃ x,L[a]? = some x∧DY ts (bindF ds) ns (valV ts L ins (sol ts L ins)) (fun k=>valsD ts (valV ts L ins (sol ts L ins)) k L) d x:=fun a d hd=>by
  rcases hY.getOpt a with ⟨h1,_⟩ | ⟨d',x,h1,h2,h3⟩
  ·rw [h1] at hd;cases hd
  ·rw [hd] at h1;cases h1;exact ⟨x,h2,h3⟩
 have hnum:∀ (a:Nat) (d:Dc) (x:Dl),ds[a]? = some d→L[a]? = some x→(x.kind=0→∃ m,d.number=m∧(inL L)[m]? = some x)∧(x.kind≠0→∃ m,d.number=m∧(eqL L)[m]? = some x):=fun a d x h1 h2=>by
  rw [hds] at h1
  have:=decls_num ts L 0 0 0 a d x h1 h2
  simpa only [Nat.zero_add] using this
 have hmemE:∀ (a:Nat) (x:Dl),L[a]? = some x→x.kind≠0→x∈eqL L:=fun a x hx hk=>List.mem_filter.2 ⟨List.mem_of_getElem? hx,by simpa using hk⟩
 -- the value at the root of an equation
 have hroot:∀ (a:Nat) (d:Dc) (x:Dl) (m k:Nat),ds[a]? = some d→L[a]? = some x→x.kind≠0→(eqL L)[m]? = some x→(valsD ts (valV ts L ins (sol ts L ins)) k L).getD d.root 0=sol ts L ins m k:=fun a d x m k h1 h2 hk hm=>by
  obtain ⟨x',h3,h4⟩:=hat a d h1
  rw [h2] at h3;cases h3
  obtain ⟨hm1,hm2⟩:=List.getElem?_eq_some_iff.1 hm
  rw [flatV_head (h4.vals hk k),sol_eq H.toEqs m k hm1,hm2]
 refine ⟨fun k i=>(valsD ts (valV ts L ins (sol ts L ins)) k L).getD i 0,⟨?_,?_,?_,?_,?_,hdr,?_⟩,?_⟩
 ·intro i hi
  obtain ⟨d,hd,h1,h2⟩:=hcov i hi
  obtain ⟨a,ha,rfl⟩:=List.getElem_of_mem hd
  obtain ⟨x,hx,hy⟩:=hat a _ (List.getElem?_eq_getElem ha)
  refine ⟨a,_,List.getElem?_eq_getElem ha,fun e=>?_,h1,h2⟩
  have:=hy.zero (by rw [← hy.kind];exact e)
  omega
 ·intro i n hn k
  have hi:=(List.getElem?_eq_some_iff.1 hn).1
  obtain ⟨d,hd,h1,h2⟩:=hcov i hi
  obtain ⟨a,ha,rfl⟩:=List.getElem_of_mem hd
  obtain ⟨x,hx,hy⟩:=hat a _ (List.getElem?_eq_getElem ha)
  have hk:x.kind≠0:=fun e=>by have:=hy.zero e;omega
  have hf:=hy.fin hk
  have hxe:=hmemE a x hx hk
  obtain ⟨hs,hl⟩:=H.sp x hxe
  have hw:wrongR ts L x.t (x.i+5) (wB (x.kind == 2))=none:=by
   have:=hT
   unfold typesR at this
   rw [List.findSome?_eq_none_iff] at this
   exact this x hxe
  have hX:=hy.vals hk
  have hlt:i - ds[a].root<(flat ts x.t (x.i+5) 0 ds[a].root).length:=by
   rw [flat_len]
   have h1':=h1
   have h2':=h2
   rw [hf] at h2'
   generalize ds[a].root=rr at *
   omega
  have key:=flat_val H.F (L:=L) (ds:=ds) (ins:=ins) (V:=valV ts L ins (sol ts L ins)) (k:=k) (X:=fun i=>(valsD ts (valV ts L ins (sol ts L ins)) k L).getD i 0) (Y:=fun i=>(valsD ts (valV ts L ins (sol ts L ins)) (k - 1) L).getD i 0) (val_bit H (fun j n x hx hk=>sol_bit H hT j n x hx hk)) x.t (x.i+5) 0 ds[a].root (wB (x.kind == 2)) hs hl hw ?_ (hX k) (fun _=>hX (k - 1))
  ·rw [allAt_get] at key
   obtain ⟨n',hn'⟩:∃ n',(flat ts x.t (x.i+5) 0 ds[a].root)[i - ds[a].root]? = some n':=⟨_,List.getElem?_eq_getElem hlt⟩
   have h3:=(allAt_get _ _).1 (hy.nodes hk) _ _ hn'
   rw [Nat.add_sub_cancel' h1,hn] at h3
   cases h3
   have:=key _ _ hn'
   rw [Nat.add_sub_cancel' h1] at this
   exact this
  ·intro j hj
   have hjl:=nms_lt x.t _ j hj
   obtain ⟨z,hz,he⟩:=H.decl j (by omega) (nms_nm x.t _ j hj)
   have hfd:0≤findF ds (tkAt ts j).text:=by
    rw [nms_nmD ts x.t _ false] at hj
    obtain ⟨y,hy,rfl⟩:=List.mem_map.1 hj
    exact hB.decl x (List.mem_of_getElem? hx) hk y hy
   obtain ⟨b,hb,rfl⟩:=List.getElem_of_mem hz
   have hbd:b<ds.length:=by have:=hB.dx.len;omega
   obtain ⟨z',hz',hyb⟩:=hat b _ (List.getElem?_eq_getElem hbd)
   rw [List.getElem?_eq_getElem hb] at hz'
   cases hz'
   have hfb:findF ds (tkAt ts j).text=(b:Int):=by
    have h5:=hB.N.own b hbd
    rw [findF_name ds (b:=(tkAt ts j).text) (by rw [hyb.name];exact he)] at h5
    exact h5
   have hgd:ds.getD b ⟨0,0,⟨#[]⟩,0,0,0,0⟩=ds[b]:=by rw [List.getD_eq_getElem?_getD,List.getElem?_eq_getElem hbd];rfl
   unfold nameF kindAt numAt rootAt
   rw [hfb]
   simp only [Int.toNat_natCast]
   rw [hgd,hyb.kind]
   have hnb:=hnum b ds[b] L[b] (List.getElem?_eq_getElem hbd) (List.getElem?_eq_getElem hb)
   by_cases hkb:L[b].kind=0
   ·rw [if_pos hkb]
    obtain ⟨m,hm,hg⟩:=hnb.1 hkb
    rw [← he,val_in H hg,hm]
   ·rw [if_neg hkb]
    obtain ⟨m,hm,hg⟩:=hnb.2 hkb
    rw [← he,val_eq H hg]
    exact (hroot b _ _ m k (List.getElem?_eq_getElem hbd) (List.getElem?_eq_getElem hb) hkb hg).symm
 ·intro a d hd hk i n hn h1 h2 c hc
  obtain ⟨x,hx,hy⟩:=hat a d hd
  have hkx:x.kind≠0:=by rw [← hy.kind];exact hk
  have hf:=hy.fin hkx
  have hD:AllAt (fun j n=>dlAt ns j=n.delayed) d.root (flat ts x.t (x.i+5) 0 d.root):=by
   refine AllAt.mono (fun j m h=>?_) _ _ (hy.nodes hkx)
   unfold dlAt
   rw [h]
   show (bindF ds m).delayed=_
   unfold bindF;split <;> rfl
  have key:=flat_kids x.t (x.i+5) 0 d.root d.fin (by omega) hD
  obtain ⟨n',hn'⟩:∃ n',(flat ts x.t (x.i+5) 0 d.root)[i - d.root]? = some n':=⟨_,List.getElem?_eq_getElem (by rw [flat_len];omega)⟩
  have h3:=(allAt_get _ _).1 (hy.nodes hkx) _ _ hn'
  rw [Nat.add_sub_cancel' h1,hn] at h3
  cases h3
  have e1:needs (bindF ds n')=needs n':=by
   obtain ⟨k1,k2,k3,k4⟩:=bindF_keep ds n'
   unfold needs;rw [k1,k2,k3,k4]
  have e2:(bindF ds n').delayed=n'.delayed:=by unfold bindF;split <;> rfl
  rw [e1] at hc
  rw [e2]
  have:=(allAt_get _ _).1 key _ _ hn' c hc
  rw [Nat.add_sub_cancel' h1] at this
  exact this
 ·intro a d hd hk
  obtain ⟨x,hx,hy⟩:=hat a d hd
  have hkx:x.kind≠0:=by rw [← hy.kind];exact hk
  obtain ⟨n,l,e,hn⟩:=flat_head x.t (x.i+5) 0 d.root (ts:=ts)
  have h:=hy.nodes hkx
  rw [e] at h
  have h1:=h.1
  refine ⟨(List.getElem?_eq_some_iff.1 h1).1,?_⟩
  unfold dlAt
  rw [h1]
  show (bindF ds n).delayed=false
  have:(bindF ds n).delayed=n.delayed:=by unfold bindF;split <;> rfl
  rw [this,hn];rfl
 ·intro a d hd hk
  rcases hsg d (List.mem_of_getElem? hd) with ⟨_,_,h⟩ | h
  ·exact absurd h hk
  ·exact h
 ·intro a d hd _ i n hn h1 h2 hk hl hq
  exact mark_of hd hn h1 h2 hk hl hq
 ·intro j d k hj
  have hmem:=List.mem_of_getElem? hj
  have hE:All2 (DY ts (bindF ds) ns (valV ts L ins (sol ts L ins)) (fun k=>valsD ts (valV ts L ins (sol ts L ins)) k L)) (eqsF ds) (eqL L):=All2.filter (fun d x h=>by rw [h.kind]) hY
  rcases hE.getOpt j with ⟨h1,_⟩ | ⟨d',x,h1,h2,h3⟩
  ·rw [h1] at hj;cases hj
  ·rw [hj] at h1;cases h1
   obtain ⟨hm1,hm2⟩:=List.getElem?_eq_some_iff.1 h2
   have hk:x.kind≠0:=by simpa using (List.mem_filter.1 (List.mem_of_getElem? h2)).2
   show (valsD ts (valV ts L ins (sol ts L ins)) k L).getD d.root 0=_
   rw [flatV_head (h3.vals hk k),sol_eq H.toEqs j k hm1,hm2]
def plR (ts:List Tk) (L:List Dl):List Nat:=(eqL L).map (placeD ts)
def netR (ts:List Tk) (L:List Dl):List LnF:=(routesR ts L).map fun r=>⟨((plR ts L).getD r.src 0:Nat),(r.dst:Nat),r.late⟩
def valsR (ts:List Tk) (L:List Dl) (ins:List (List Int)) (pl:Int) (n:Nat):List Int:=(atR ts L pl).map fun j=>sol ts L ins j n
theorem routes_mem (ts:List Tk) (L:List Dl):∀ r∈routesR ts L,r.dst<4∧∃ x,(eqL L)[r.src]? = some x∧r.dst≠placeD ts x∧usesR ts L (nameD ts x).data.toList r.dst≠[]:=by
 have hto:∀ b x q,∀ r∈routeTo ts L b x q,r.src=b∧r.dst<q∧r.dst≠placeD ts x∧usesR ts L (nameD ts x).data.toList r.dst≠[]:=by
  intro b x q
  induction q with
  | zero=>intro r hr;simp [routeTo] at hr
  | succ q ih=>
   intro r hr
   simp only [routeTo,List.mem_append] at hr
   rcases hr with hr | hr
   ·obtain ⟨h1,h2,h3⟩:=ih r hr;exact ⟨h1,by omega,h3⟩
   ·unfold routeAt at hr
    split at hr
    ·rename_i hc
     simp at hr;subst hr;exact ⟨rfl,Nat.lt_succ_self _,hc.2,hc.1⟩
    ·simp at hr
 have hfr:∀ (l:List Dl) (b:Nat),∀ r∈routesFrom ts L b l,r.dst<4∧∃ x,l[r.src - b]? = some x∧b≤r.src∧r.dst≠placeD ts x∧usesR ts L (nameD ts x).data.toList r.dst≠[]:=by
  intro l
  induction l with
  | nil=>intro b r hr;simp [routesFrom] at hr
  | cons x l ih=>
   intro b r hr
   simp only [routesFrom,List.mem_append] at hr
   rcases hr with hr | hr
   ·obtain ⟨h1,h2,h3,h4⟩:=hto b x 4 r hr
    exact ⟨h2,x,by rw [h1,Nat.sub_self];rfl,by omega,h3,h4⟩
   ·obtain ⟨h1,y,h2,h3,h4⟩:=ih (b+1) r hr
    exact ⟨h1,y,by rw [show r.src - b=(r.src - (b+1))+1 by omega,List.getElem?_cons_succ];exact h2,by omega,h4⟩
 intro r hr
 obtain ⟨h1,x,h2,_,h3⟩:=hfr (eqL L) 0 r hr
 exact ⟨h1,x,by simpa using h2,h3⟩
theorem plR_get {ts:List Tk}{L:List Dl}{j:Nat}{x:Dl} (h:(eqL L)[j]? = some x):(plR ts L).getD j 0=placeD ts x:=by
 unfold plR
 rw [List.getD_eq_getElem?_getD,List.getElem?_map,h];rfl
theorem net_at {ts:List Tk}{L:List Dl}{l:Nat} (hl:l<(netR ts L).length):∃ r x,(routesR ts L)[l]? = some r∧r∈routesR ts L∧(eqL L)[r.src]? = some x∧lnAt (netR ts L) l=⟨((placeD ts x:Nat):Int),((r.dst:Nat):Int),r.late⟩∧r.dst≠placeD ts x∧r.dst<4∧usesR ts L (nameD ts x).data.toList r.dst≠[]:=by
 have hl':l<(routesR ts L).length:=by unfold netR at hl;rwa [List.length_map] at hl
 obtain ⟨h1,x,h2,h3,h4⟩:=routes_mem ts L _ (List.getElem_mem hl')
 refine ⟨(routesR ts L)[l],x,List.getElem?_eq_getElem hl',List.getElem_mem hl',h2,?_,h3,h1,h4⟩
 unfold lnAt netR
 rw [List.getD_eq_getElem?_getD,List.getElem?_map,List.getElem?_eq_getElem hl',Option.map_some,Option.getD_some,plR_get h2]
theorem net_apart (ts:List Tk) (L:List Dl):Apart (netR ts L):=by
 intro l hl
 obtain ⟨r,x,_,_,_,e,h,_⟩:=net_at hl
 rw [e]
 show ((placeD ts x:Nat):Int)≠((r.dst:Nat):Int)
 omega
section
variable {ts:List Tk} {L:List Dl} (hlp:lpR ts L=none) (hpl:∀ x∈eqL L,placeD ts x<4)
include hlp hpl
end
end Go.Proofs.YtmndgoapkmhglabGreat
namespace Go.Proofs.YtmndgoapkmhglabGreat
open Go.RowKit
theorem later_nat (sc:List OpF) {i:Nat} (hi:i<sc.length) (h:0≤laterF sc i):∃ m:Nat,laterF sc i=(m:Int)∧i<m∧m<sc.length:=by
 rcases later_range sc i (sc.length - (i+1)) (i+1) (by omega) (by omega) with e | ⟨j,e,h1,h2⟩
 ·have e':laterF sc i = -1:=e
  omega
 ·exact ⟨j,e,h1,h2⟩

section
variable {ts:List Tk} {L:List Dl} (hlp:lpR ts L=none) (hpl:∀ x∈eqL L,placeD ts x<4)
include hlp hpl
omit hlp hpl in
end
end Go.Proofs.YtmndgoapkmhglabGreat
