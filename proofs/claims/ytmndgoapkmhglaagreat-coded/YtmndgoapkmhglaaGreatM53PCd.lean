import Derived.Test.YtmndgoapkmhglaaGreatM16JudM
import Derived.Test.YtmndgoapkmhglaaGreatM20OpC
import Derived.Test.YtmndgoapkmhglaaGreatM35SvC
import Derived.Test.YtmndgoapkmhglaaGreatM45CdD
import Derived.Test.YtmndgoapkmhglaaGreatM46HeldT
import Derived.Test.YtmndgoapkmhglaaGreatM51WrK
import Derived.Test.YtmndgoapkmhglaaGreatM52CdE
namespace Go.Proofs.YtmndgoapkmhglaaGreat
open Go.RowKit
def codeC (s:ByteArray) (L:List Dl) (pl:Int):CdF:=
 codeW (toks s) L (declsD (toks s) L 0 0 0) pl (toPl pl (routesR (toks s) L)) (orderF (declsD (toks s) L 0 0 0) (markAll (declsD (toks s) L 0 0 0) ((nodesD (toks s) L 0).map (bindF (declsD (toks s) L 0 0 0))) 0 (declsD (toks s) L 0 0 0) noM))
theorem toks_len (s:ByteArray):(toks s).length≤s.size+1:=by
 have:=toksFrom_length s s.size 0
 unfold toks
 rw [List.length_append,List.length_singleton]
 omega
theorem know_of {s:ByteArray}{p:PS} (hs:s.size≤1500) (hp:parseF s = .ok p) {L:List Dl} (hG:RGood s L):WKnow (toks s) L p.decls (boundN p):=by
 obtain ⟨g1,g2,hB⟩:=held_of hs hp hG
 have hR:=right_of (toks_F s) hG.sp hG.many hG.names hG.cyc
 have hm:∀ x∈eqL L,x∈L∧x.kind≠0:=fun x hx=>by
  unfold eqL at hx
  have:=List.mem_filter.1 hx
  exact ⟨this.1,by simpa using this.2⟩
 refine ⟨hR,hG.types,g1,g2,hB,fun x hx=>?_,fun x hx=>?_⟩
 ·obtain ⟨h1,h2⟩:=hm x hx
  rcases (spell_mem L 0 hG.sp x h1).2.2 with h | h
  ·exact absurd h.1 h2
  ·exact h.2.2.2.1.2
 ·obtain ⟨h1,h2⟩:=hm x hx
  rcases (spell_mem L 0 hG.sp x h1).2.2 with h | h
  ·exact absurd h.1 h2
  ·exact h.2.2.2.2.1
theorem few_decls {s:ByteArray}{p:PS} (hs:s.size≤1500) (hp:parseF s = .ok p) {L:List Dl} (hG:RGood s L):p.decls.length≤16∧(eqL L).length≤16:=by
 obtain ⟨g1,g2,hB⟩:=held_of hs hp hG
 have hR:=right_of (toks_F s) hG.sp hG.many hG.names hG.cyc
 have e1:L.length=p.decls.length:=hB.dx.len
 have e2:(eqL L).length+(inL L).length=L.length:=by
  have:∀ l:List Dl,(eqL l).length+(inL l).length=l.length:=by
   intro l
   induction l with
   | nil=>rfl
   | cons x r ih=>
    by_cases hx:x.kind=0
    ·simp [eqL,inL,hx] at ih ⊢;omega
    ·simp [eqL,inL,hx] at ih ⊢;omega
  exact this L
 have:=hR.few
 omega
theorem bound_names {s:ByteArray}{p:PS} (h0:(textF s).1=0) (hp:parseF s = .ok p):∀ m∈boundN p,m.kind=2→0≤m.decl:=fun m hm hk=>by
 have hs':=text_le h0
 have hg:=good_parse s hs' p hp
 have h5:badNameF p.decls (boundN p) 0 p.decls=none:=by
  have h6:(meaningF p.decls (boundN p)).1=0:=by
   have:=h0
   unfold textF at this
   rw [if_neg (by omega),hp] at this
   exact this
  unfold meaningF at h6
  split at h6
  ·cases h6
  ·split at h6
   ·cases h6
   ·rename_i _ h7;exact h7
 exact hg.names h5 m hm hk
theorem codeC_eq {s:ByteArray}{L:List Dl}{pl:Int}{ds:List Dc}{ns:List Nd} (h1:ds=declsD (toks s) L 0 0 0) (h2:ns=(nodesD (toks s) L 0).map (bindF ds)):codeC s L pl=codeW (toks s) L ds pl (toPl pl (routesR (toks s) L)) (orderF ds (markAll ds ns 0 ds noM)):=by
 subst h2;subst h1;rfl
theorem codeC_ok {s:ByteArray} (h0:(textF s).1=0) {p:PS} (hp:parseF s = .ok p) {L:List Dl} (hG:RGood s L) (pl:Int) (hO:OrdOk p.decls (markAll p.decls (boundN p) 0 p.decls noM) (orderF p.decls (markAll p.decls (boundN p) 0 p.decls noM))):StepOk (toks s) L pl (codeC s L pl) s.size:=by
 have hs:=text_le h0
 obtain ⟨k1,k2,hB⟩:=held_of hs hp hG
 have hR:=right_of (toks_F s) hG.sp hG.many hG.names hG.cyc
 have hW:=know_of hs hp hG
 rw [codeC_eq k1 k2]
 exact code_ok hW rfl hO (ord_nodup _ _) hG.sp (toks_len s) hs
theorem step_same {ts:List Tk}{L L':List Dl} (he:eqL L=eqL L') (hi:(inL L).map Dl.i=(inL L').map Dl.i) {pl:Int}{c:CdF}{z:Nat} (h:StepOk ts L pl c z):StepOk ts L' pl c z:=by
 have hl:(inL L).length=(inL L').length:=by have:=congrArg List.length hi;simpa using this
 have ea:atR ts L pl=atR ts L' pl:=by unfold atR atG;rw [he]
 have ed:delaysR ts L pl=delaysR ts L' pl:=by unfold delaysR;rw [he]
 have eu:∀ nm q,usesR ts L nm q=usesR ts L' nm q:=fun nm q=>by unfold usesR;rw [he]
 have eat:∀ b x q,routeAt ts L b x q=routeAt ts L' b x q:=fun b x q=>by unfold routeAt;rw [eu]
 have eto:∀ b x q,routeTo ts L b x q=routeTo ts L' b x q:=fun b x q=>by
  induction q with
  | zero=>rfl
  | succ q ih=>simp only [routeTo];rw [ih,eat]
 have efr:∀ (l:List Dl) (b:Nat),routesFrom ts L b l=routesFrom ts L' b l:=fun l=>by
  induction l with
  | nil=>intro b;rfl
  | cons x r ih=>intro b;simp only [routesFrom];rw [ih,eto]
 have er:routesR ts L=routesR ts L':=by unfold routesR;rw [efr,he]
 have en:∀ ins,nowL L ins=nowL L' ins:=fun ins=>by funext k;unfold nowL;rw [hl]
 have eg:∀ F k junk,givenR ts L F pl k junk=givenR ts L' F pl k junk:=fun F k junk=>by unfold givenR;rw [er]
 refine ⟨h.formed,h.ops,by rw [← ea];exact h.out,by rw [← ed];exact h.cells,fun ins junk k i j hj=>?_⟩
 have:=h.play ins junk k i j (by rw [ea];exact hj)
 simp only [eg,en,sol_same he hi] at this
 exact this
theorem codeE_same {s:ByteArray}{L L':List Dl} (h:(textF s).1=0→RGood s L) (h':(textF s).1=0→RGood s L') (pl:Int):codeE s L pl=codeE s L' pl:=by
 by_cases h0:(textF s).1=0
 ·have he:=(spell_same (toks_F s) (h h0).sp (h' h0).sp).1
  have ea:atR (toks s) L pl=atR (toks s) L' pl:=by unfold atR atG;rw [he]
  unfold codeE
  rw [ea]
 ·unfold codeE
  rw [if_pos h0,if_pos h0]
end Go.Proofs.YtmndgoapkmhglaaGreat
namespace Go.Proofs.YtmndgoapkmhglaaGreat
open Go.RowKit
attribute [local go_sem ↓] Go.wp_at_zero Go.wp_at_succ
structure CodeQ (s:ByteArray) (L:List Dl) (pl:Int) (B:Nat) (w:World) (vO vC vN vU:Value):Prop where
 no:codeE s L pl≠0→vO = .slice none 0 0∧vC = .slice none 0 0∧vN = .slice none 0 0∧vU = .slice none 0 0
 own:codeE s L pl=0→CodeOwn w B vO vC vN vU (codeC s L pl)
 step:codeE s L pl=0→StepOk (toks s) L pl (codeC s L pl) s.size
theorem code_box {W:World}{N:Nat} (h:W.heap[N]? = some (.cells #[.slice none 0 0,.slice none 0 0,.slice none 0 0,.slice none 0 0] 43)) :
  (∀ o,(W.alloc o).cell? ⟨N,0,none⟩=some (.slice none 0 0))∧(∀ o,(W.alloc o).cell? ⟨N,1,none⟩=some (.slice none 0 0))∧(∀ o,(W.alloc o).cell? ⟨N,2,none⟩=some (.slice none 0 0))∧(∀ o,(W.alloc o).cell? ⟨N,3,none⟩=some (.slice none 0 0))∧(∀ o j,(W.alloc o).frozen? ⟨N,j,none⟩=false):=by
 have hka:∀ o,(W.alloc o).heap[N]? = some (.cells #[.slice none 0 0,.slice none 0 0,.slice none 0 0,.slice none 0 0] 43):=fun o=>(Below.heap_alloc W o N (Array.getElem?_eq_some_iff.1 h).1).trans h
 refine ⟨?_,?_,?_,?_,fun o j=>frozen_of_row _ N j _ _ (hka o)⟩ <;> (intro o;rw [cell_of_row _ N _ _ _ _ (hka o)];rfl)
theorem box_put {W:World}{N:Nat}{q0 q1 q2 q3:Value} (h:W.heap[N]? = some (.cells #[q0,q1,q2,q3] 43)) (u0 u1 u2 u3:Value) {w8:World} (hw:w8=(((W.setCell ⟨N,0,none⟩ u0).setCell ⟨N,1,none⟩ u1).setCell ⟨N,2,none⟩ u2).setCell ⟨N,3,none⟩ u3) :
  w8.cell? ⟨N,0,none⟩=some u0∧w8.cell? ⟨N,1,none⟩=some u1∧w8.cell? ⟨N,2,none⟩=some u2∧w8.cell? ⟨N,3,none⟩=some u3∧(∀ k,k≠N→w8.heap[k]? = W.heap[k]?):=by
 have k8:∀ k,k≠N→w8.heap[k]? = W.heap[k]?:=fun k hk=>by
  rw [hw,heap_setCell_other _ ⟨N,3,none⟩ k _ hk,heap_setCell_other _ ⟨N,2,none⟩ k _ hk,heap_setCell_other _ ⟨N,1,none⟩ k _ hk,heap_setCell_other _ ⟨N,0,none⟩ k _ hk]
 have h0:=heap_setCell_same _ N 0 _ _ u0 h
 have h1:=heap_setCell_same _ N 1 _ _ u1 h0
 have h2:=heap_setCell_same _ N 2 _ _ u2 h1
 have h3:=heap_setCell_same _ N 3 _ _ u3 h2
 have hk8:w8.heap[N]? = some (.cells #[u0,u1,u2,u3] 43):=by rw [hw,h3];rfl
 exact ⟨by rw [cell_of_row w8 _ 0 _ _ _ hk8];rfl,by rw [cell_of_row w8 _ 1 _ _ _ hk8];rfl,by rw [cell_of_row w8 _ 2 _ _ _ hk8];rfl,by rw [cell_of_row w8 _ 3 _ _ _ hk8];rfl,k8⟩
set_option maxHeartbeats 2000000 in
set_option maxRecDepth 100000 in
theorem pcode_any (s:ByteArray) (hs:s.size≤maxLen) (L:List Dl) (hL:(textF s).1=0→RGood s L) (w:World) (pl:Int) :
  Calls Tryz.prog 13 #[.string s,.int .i64 pl] w fun e w'=>∃ vO vC vN vU,e = .returned (.tuple #[.agg #[vO,vC,vN,vU],.int .i64 (codeE s L pl:Int)])∧CodeQ s L pl w.heap.size w' vO vC vN vU∧Below w.heap.size w w':=by
 obtain ⟨w0,hw0⟩:∃ w0,w0=w.alloc (.cells #[.slice none 0 0,.slice none 0 0,.slice none 0 0,.slice none 0 0] 43):=⟨_,rfl⟩
 have hb0:Below w.heap.size w w0:=by rw [hw0];exact (Below.refl _ _).alloc (Nat.le_refl _) _
 have hN0:w.heap.size<w0.heap.size:=by rw [hw0];simp
 have hk0:w0.heap[w.heap.size]? = some (.cells #[.slice none 0 0,.slice none 0 0,.slice none 0 0,.slice none 0 0] 43):=by rw [hw0];exact heap_alloc_new w _
 have HB0:=hide hb0
 have HN0:=hide hN0
 have HK0:=hide hk0
 clear hb0 hN0 hk0
 go_enter Tryz.func13,Tryz.ntmps13
 go_wp2_with fail
 rw [← hw0]
 refine (text_any s w0 hs (good_parse s)).mono ?_
 rintro e w1 ⟨⟨vd,vn,rfl,hr⟩,hb1⟩
 clear hw0
 have HB1:=hide hb1
 have bx:∀ W,Below w0.heap.size w0 W→W.heap[w.heap.size]? = some (.cells #[.slice none 0 0,.slice none 0 0,.slice none 0 0,.slice none 0 0] 43):=fun W hW=>(hW.block _ HN0.out).trans HK0.out
 have HBX:=hide bx
 clear bx hb1
 rcases hr with ⟨h0,rfl,rfl⟩ | ⟨h0,p,hp,⟨a1,n1,c1,rfl⟩,⟨a2,n2,c2,rfl⟩,hod,hon,hdn⟩
 ·have q1:(((textF s).1:Int) != 0)=true:=by rw [bne_iff_ne];omega
  have HSR:Hid (codeE s L pl=(textF s).1):=hide (by unfold codeE;rw [if_pos h0])
  have H0:=hide h0
  have hk1:=HBX.out w1 HB1.out
  obtain ⟨z0,z1,z2,z3,zf⟩:=code_box hk1
  have HK1:=hide hk1
  clear h0 hL hk1
  go_wp2
  obtain ⟨w8,hw8⟩:∃ w8,w8=((((w1.alloc (.cells #[.slice none 0 0,.slice none 0 0] 56)).setCell ⟨w.heap.size,0,none⟩ (.slice none 0 0)).setCell ⟨w.heap.size,1,none⟩ (.slice none 0 0)).setCell ⟨w.heap.size,2,none⟩ (.slice none 0 0)).setCell ⟨w.heap.size,3,none⟩ (.slice none 0 0):=⟨_,rfl⟩
  rw [← hw8]
  have hba:=HB1.out.alloc HB1.out.size (.cells #[.slice none 0 0,.slice none 0 0] 56)
  obtain ⟨r0,r1,r2,r3,r4⟩:=box_put (HBX.out _ hba) _ _ _ _ hw8
  have hb8:Below w.heap.size w w8:=by
   rw [hw8]
   exact ((((HB0.out.trans (hba.mono (Nat.le_of_lt HN0.out))).setCell (Nat.le_refl _) _).setCell (Nat.le_refl _) _).setCell (Nat.le_refl _) _).setCell (Nat.le_refl _) _
  clear hw8
  refine bodyPost_ret (v:=.tuple #[.agg #[.slice none 0 0,.slice none 0 0,.slice none 0 0,.slice none 0 0],.int .i64 ((textF s).1:Int)]) (by simp [results,Tryz.results13,go_sem,r0,r1,r2,r3]) rfl ?_
  exact ⟨_,_,_,_,by rw [HSR.out],⟨fun _=>⟨rfl,rfl,rfl,rfl⟩,fun h=>absurd (HSR.out.symm.trans h) H0.out,fun h=>absurd (HSR.out.symm.trans h) H0.out⟩,hb8⟩
 ·have q1:(((textF s).1:Int) != 0)=false:=by rw [h0];rfl
  have hs':=text_le h0
  have hg:=good_parse s hs' p hp
  have hG:=hL h0
  have hR:=right_of (toks_F s) hG.sp hG.many hG.names hG.cyc
  obtain ⟨g1,g2,hB⟩:=held_of hs' hp hG
  have hW:=know_of hs' hp hG
  obtain ⟨h16,he16⟩:=few_decls hs' hp hG
  have hbd:=bound_names h0 hp
  have hrk:=ranked_of hR hB
  have hlk:=links_held hs' hp hG
  have hrl:=routes_len (toks s) L
  have hbl:(boundN p).length=p.nodes.length:=by simp [boundN]
  have HPA:Hid (∀ o,o = .cells #[.slice a1 n1 c1,.slice a2 n2 c2] 56→ProgAt (w1.alloc o) w1.heap.size p.decls (boundN p) (.slice a1 n1 c1) (.slice a2 n2 c2)):=hide (fun o ho=>by
   subst ho
   exact ⟨by simp,(World.cell?_alloc_at _ _ _ _ rfl).trans rfl,(World.cell?_alloc_at _ _ _ _ rfl).trans rfl,(own_zero hod).alloc _,by rw [hbl];exact (own_zero hon).alloc _⟩)
  have HFR:Hid (∀ W,ProgAt W w1.heap.size p.decls (boundN p) (.slice a1 n1 c1) (.slice a2 n2 c2)→Calls Tryz.prog 27 #[.pointer (some ⟨w1.heap.size,0,none⟩),.int .i64 pl] W fun e w'=>∃ vO vC vN vU,e = .returned (.agg #[vO,vC,vN,vU])∧CodeOwn w' W.heap.size vO vC vN vU (codeC s L pl)∧StepOk (toks s) L pl (codeC s L pl) s.size∧Below W.heap.size W w'):=hide (fun W hPA=>by
   refine (wfor_any W w1.heap.size p.decls (boundN p) _ _ hPA hg.wf pl (by rw [hlk];omega) h16 hbd _ hrk (toks s) L hW hlk hG.sp (by have:=toks_len s;omega)).mono ?_
   rintro e w' ⟨vO,vC,vN,vU,rfl,hc,hO,hb⟩
   rw [← codeC_eq g1 g2] at hc
   exact ⟨vO,vC,vN,vU,rfl,hc,codeC_ok h0 hp hG pl hO,hb⟩)
  have HSR:Hid (codeE s L pl=if (atR (toks s) L pl).length=0 then 8 else 0):=hide (by unfold codeE;rw [if_neg (by rw [h0];decide)])
  clear h0 hL hod hon hdn hg hp hbl hrk h16 he16 hbd hlk hrl hW hB hR hG g1 g2 hs'
  go_wp2_with fail
  refine (HFR.out _ (HPA.out _ rfl)).mono ?_
  rintro e w2 ⟨vO,vC,vN,vU,rfl,hc,hst,hb2⟩
  have hba:=HB1.out.alloc HB1.out.size (.cells #[.slice a1 n1 c1,.slice a2 n2 c2] 56)
  have HB2:Hid (Below w0.heap.size w0 w2):=hide (hba.trans (hb2.mono hba.size))
  have hsz2:w0.heap.size≤w2.heap.size:=HB2.out.size
  have hout:=hst.out
  obtain ⟨aO,cO,rfl,_⟩:=own_shape hc.ops
  obtain ⟨aC,cC,rfl,_⟩:=own_shape hc.cells
  obtain ⟨aN,cN,rfl,_⟩:=own_shape hc.next
  obtain ⟨aU,cU,rfl,_⟩:=own_shape hc.out
  have hk2:=HBX.out w2 HB2.out
  obtain ⟨z0,z1,z2,z3,zf⟩:=code_box hk2
  have HC:Hid (CodeOwn w2 w.heap.size (.slice aO (codeC s L pl).ops.length cO) (.slice aC (codeC s L pl).cells.length cC) (.slice aN (codeC s L pl).next.length cN) (.slice aU (codeC s L pl).out.length cU) (codeC s L pl)):=hide (by
   have hle:w.heap.size≤(w1.alloc (.cells #[.slice a1 n1 c1,.slice a2 n2 c2] 56)).heap.size:=by have:=HB1.out.size;have:=HN0.out;simp;omega
   exact ⟨own_wkO hc.ops hle,own_wkO hc.cells hle,own_wkO hc.next hle,own_wkO hc.out hle,hc.apart⟩)
  have HST:=hide hst
  have HGE:Hid (∀ i,i<4→∀ g,(codeV (.slice aO (codeC s L pl).ops.length cO) (.slice aC (codeC s L pl).cells.length cC) (.slice aN (codeC s L pl).next.length cN) (.slice aU (codeC s L pl).out.length cU) i).ownBlock=some g→g≠w.heap.size∧g<w2.heap.size):=hide (fun i hi g hg=>by
   have h1:=hc.blk i hi g hg
   have:=HB1.out.size;have:=HN0.out
   simp at h1
   omega)
  clear hc hst hb2 hba hk2 HFR HPA
  by_cases hno:(codeC s L pl).out.length=0
  ·have q2:(((codeC s L pl).out.length:Int) == 0)=true:=by rw [hno];rfl
   have HE:Hid (codeE s L pl=8):=hide (by rw [HSR.out,← hout,if_pos hno])
   clear hno hout
   go_wp2
   obtain ⟨w8,hw8⟩:∃ w8,w8=((((w2.alloc (.cells #[.slice aO (codeC s L pl).ops.length cO,.slice aC (codeC s L pl).cells.length cC,.slice aN (codeC s L pl).next.length cN,.slice aU (codeC s L pl).out.length cU] 43)).setCell ⟨w.heap.size,0,none⟩ (.slice none 0 0)).setCell ⟨w.heap.size,1,none⟩ (.slice none 0 0)).setCell ⟨w.heap.size,2,none⟩ (.slice none 0 0)).setCell ⟨w.heap.size,3,none⟩ (.slice none 0 0):=⟨_,rfl⟩
   rw [← hw8]
   have hba:=HB2.out.alloc HB2.out.size (.cells #[.slice aO (codeC s L pl).ops.length cO,.slice aC (codeC s L pl).cells.length cC,.slice aN (codeC s L pl).next.length cN,.slice aU (codeC s L pl).out.length cU] 43)
   obtain ⟨r0,r1,r2,r3,r4⟩:=box_put (HBX.out _ hba) _ _ _ _ hw8
   have hb8:Below w.heap.size w w8:=by
    rw [hw8]
    exact ((((HB0.out.trans (hba.mono (Nat.le_of_lt HN0.out))).setCell (Nat.le_refl _) _).setCell (Nat.le_refl _) _).setCell (Nat.le_refl _) _).setCell (Nat.le_refl _) _
   have h48:∀ i,i<4→∀ g,(codeV (.slice aO (codeC s L pl).ops.length cO) (.slice aC (codeC s L pl).cells.length cC) (.slice aN (codeC s L pl).next.length cN) (.slice aU (codeC s L pl).out.length cU) i).ownBlock=some g→w8.heap[g]? = w2.heap[g]?:=fun i hi g hg=>by
    have h1:=HGE.out i hi g hg
    rw [r4 g h1.1,Below.heap_alloc _ _ _ h1.2]
   clear hw8
   refine bodyPost_ret (v:=.tuple #[.agg #[.slice none 0 0,.slice none 0 0,.slice none 0 0,.slice none 0 0],.int .i64 8]) (by simp [results,Tryz.results13,go_sem,r0,r1,r2,r3]) rfl ?_
   exact ⟨_,_,_,_,by rw [HE.out];rfl,⟨fun _=>⟨rfl,rfl,rfl,rfl⟩,fun h=>absurd (HE.out.symm.trans h) (by decide),fun h=>absurd (HE.out.symm.trans h) (by decide)⟩,hb8⟩
  ·have q2:(((codeC s L pl).out.length:Int) == 0)=false:=by rw [beq_eq_false_iff_ne];omega
   have HE:Hid (codeE s L pl=0):=hide (by rw [HSR.out,← hout,if_neg hno])
   clear hno hout
   go_wp2
   obtain ⟨w8,hw8⟩:∃ w8,w8=((((w2.alloc (.cells #[.slice aO (codeC s L pl).ops.length cO,.slice aC (codeC s L pl).cells.length cC,.slice aN (codeC s L pl).next.length cN,.slice aU (codeC s L pl).out.length cU] 43)).setCell ⟨w.heap.size,0,none⟩ (.slice aO (codeC s L pl).ops.length cO)).setCell ⟨w.heap.size,1,none⟩ (.slice aC (codeC s L pl).cells.length cC)).setCell ⟨w.heap.size,2,none⟩ (.slice aN (codeC s L pl).next.length cN)).setCell ⟨w.heap.size,3,none⟩ (.slice aU (codeC s L pl).out.length cU):=⟨_,rfl⟩
   rw [← hw8]
   have hba:=HB2.out.alloc HB2.out.size (.cells #[.slice aO (codeC s L pl).ops.length cO,.slice aC (codeC s L pl).cells.length cC,.slice aN (codeC s L pl).next.length cN,.slice aU (codeC s L pl).out.length cU] 43)
   obtain ⟨r0,r1,r2,r3,r4⟩:=box_put (HBX.out _ hba) _ _ _ _ hw8
   have hb8:Below w.heap.size w w8:=by
    rw [hw8]
    exact ((((HB0.out.trans (hba.mono (Nat.le_of_lt HN0.out))).setCell (Nat.le_refl _) _).setCell (Nat.le_refl _) _).setCell (Nat.le_refl _) _).setCell (Nat.le_refl _) _
   have h48:∀ i,i<4→∀ g,(codeV (.slice aO (codeC s L pl).ops.length cO) (.slice aC (codeC s L pl).cells.length cC) (.slice aN (codeC s L pl).next.length cN) (.slice aU (codeC s L pl).out.length cU) i).ownBlock=some g→w8.heap[g]? = w2.heap[g]?:=fun i hi g hg=>by
    have h1:=HGE.out i hi g hg
    rw [r4 g h1.1,Below.heap_alloc _ _ _ h1.2]
   clear hw8
   refine bodyPost_ret (v:=.tuple #[.agg #[.slice aO (codeC s L pl).ops.length cO,.slice aC (codeC s L pl).cells.length cC,.slice aN (codeC s L pl).next.length cN,.slice aU (codeC s L pl).out.length cU],.int .i64 0]) (by simp [results,Tryz.results13,go_sem,r0,r1,r2,r3]) rfl ?_
   exact ⟨_,_,_,_,by rw [HE.out];rfl,⟨fun h=>absurd HE.out h,fun _=>⟨own_eqb HC.out.ops (h48 0 (by omega)),own_eqb HC.out.cells (h48 1 (by omega)),own_eqb HC.out.next (h48 2 (by omega)),own_eqb HC.out.out (h48 3 (by omega)),HC.out.apart⟩,fun _=>HST.out⟩,hb8⟩
end Go.Proofs.YtmndgoapkmhglaaGreat
