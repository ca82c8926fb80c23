import Derived.Test.YtecegaflhdgfaaaGreatM15JudB
import Derived.Test.YtecegaflhdgfaaaGreatM19IntC
import Derived.Test.YtecegaflhdgfaaaGreatM28SpU
import Derived.Test.YtecegaflhdgfaaaGreatM29LawN
import Derived.Test.YtecegaflhdgfaaaGreatM39CdG
import Derived.Test.YtecegaflhdgfaaaGreatM40CdD
import Derived.Test.YtecegaflhdgfaaaGreatM41CdE
namespace Go.Proofs.YtecegaflhdgfaaaGreat
open Go.RowKit
def codeC (s:ByteArray) (L:List Dl) (pl:Int):CdF:=
 codeW (toks s) L (declsD (toks s) L 0 0 0) pl (toPl pl (routesR (toks s) L)) (orderF (declsD (toks s) L 0 0 0) (markAll (declsD (toks s) L 0 0 0) ((nodesD (toks s) L 0).map (bindF (declsD (toks s) L 0 0 0))) 0 (declsD (toks s) L 0 0 0) noM))
theorem toks_len (s:ByteArray):(toks s).length≤s.size+1:=by
 have:=toksFrom_length s s.size 0
 unfold toks
 rw [List.length_append,List.length_singleton]
 omega
theorem know_of {s:ByteArray}{p:PS} (hs:s.size≤1500) (hp:parseF s = .ok p) {L:List Dl} (hG:RGood s L):WKnow (toks s) L p.decls (boundN p):=by
 obtain ⟨g1,g2,hB⟩:=held_of hs hp hG
 have hR:=right_of (toks_F s) hG.sp hG.many hG.names hG.cyc
 have hm:∀ x∈eqL L,x∈L∧x.kind≠0:=fun x hx=>by
  unfold eqL at hx
  have:=List.mem_filter.1 hx
  exact ⟨this.1,by simpa using this.2⟩
 refine ⟨hR,hG.types,g1,g2,hB,fun x hx=>?_,fun x hx=>?_⟩
 ·obtain ⟨h1,h2⟩:=hm x hx
  rcases (spell_mem L 0 hG.sp x h1).2.2 with h | h
  ·exact absurd h.1 h2
  ·exact h.2.2.2.1.2
 ·obtain ⟨h1,h2⟩:=hm x hx
  rcases (spell_mem L 0 hG.sp x h1).2.2 with h | h
  ·exact absurd h.1 h2
  ·exact h.2.2.2.2.1
theorem few_decls {s:ByteArray}{p:PS} (hs:s.size≤1500) (hp:parseF s = .ok p) {L:List Dl} (hG:RGood s L):p.decls.length≤16∧(eqL L).length≤16:=by
 obtain ⟨g1,g2,hB⟩:=held_of hs hp hG
 have hR:=right_of (toks_F s) hG.sp hG.many hG.names hG.cyc
 have e1:L.length=p.decls.length:=hB.dx.len
 have e2:(eqL L).length+(inL L).length=L.length:=by
  have:∀ l:List Dl,(eqL l).length+(inL l).length=l.length:=by
   intro l
   induction l with
   | nil=>rfl
   | cons x r ih=>
    by_cases hx:x.kind=0
    ·simp [eqL,inL,hx] at ih ⊢;omega
    ·simp [eqL,inL,hx] at ih ⊢;omega
  exact this L
 have:=hR.few
 omega
theorem bound_names {s:ByteArray}{p:PS} (h0:(textF s).1=0) (hp:parseF s = .ok p):∀ m∈boundN p,m.kind=2→0≤m.decl:=fun m hm hk=>by
 have hs':=text_le h0
 have hg:=good_parse s hs' p hp
 have h5:badNameF p.decls (boundN p) 0 p.decls=none:=by
  have h6:(meaningF p.decls (boundN p)).1=0:=by
   have:=h0
   unfold textF at this
   rw [if_neg (by omega),hp] at this
   exact this
  unfold meaningF at h6
  split at h6
  ·cases h6
  ·split at h6
   ·cases h6
   ·rename_i _ h7;exact h7
 exact hg.names h5 m hm hk
theorem codeC_eq {s:ByteArray}{L:List Dl}{pl:Int}{ds:List Dc}{ns:List Nd} (h1:ds=declsD (toks s) L 0 0 0) (h2:ns=(nodesD (toks s) L 0).map (bindF ds)):codeC s L pl=codeW (toks s) L ds pl (toPl pl (routesR (toks s) L)) (orderF ds (markAll ds ns 0 ds noM)):=by
 subst h2;subst h1;rfl
theorem codeC_ok {s:ByteArray} (h0:(textF s).1=0) {p:PS} (hp:parseF s = .ok p) {L:List Dl} (hG:RGood s L) (pl:Int) (hO:OrdOk p.decls (markAll p.decls (boundN p) 0 p.decls noM) (orderF p.decls (markAll p.decls (boundN p) 0 p.decls noM))):StepOk (toks s) L pl (codeC s L pl) s.size:=by
 have hs:=text_le h0
 obtain ⟨k1,k2,hB⟩:=held_of hs hp hG
 have hR:=right_of (toks_F s) hG.sp hG.many hG.names hG.cyc
 have hW:=know_of hs hp hG
 rw [codeC_eq k1 k2]
 exact code_ok hW rfl hO (ord_nodup _ _) hG.sp (toks_len s) hs
theorem step_same {ts:List Tk}{L L':List Dl} (he:eqL L=eqL L') (hi:(inL L).map Dl.i=(inL L').map Dl.i) {pl:Int}{c:CdF}{z:Nat} (h:StepOk ts L pl c z):StepOk ts L' pl c z:=by
 have hl:(inL L).length=(inL L').length:=by have:=congrArg List.length hi;simpa using this
 have ea:atR ts L pl=atR ts L' pl:=by unfold atR atG;rw [he]
 have ed:delaysR ts L pl=delaysR ts L' pl:=by unfold delaysR;rw [he]
 have eu:∀ nm q,usesR ts L nm q=usesR ts L' nm q:=fun nm q=>by unfold usesR;rw [he]
 have eat:∀ b x q,routeAt ts L b x q=routeAt ts L' b x q:=fun b x q=>by unfold routeAt;rw [eu]
 have eto:∀ b x q,routeTo ts L b x q=routeTo ts L' b x q:=fun b x q=>by
  induction q with
  | zero=>rfl
  | succ q ih=>simp only [routeTo];rw [ih,eat]
 have efr:∀ (l:List Dl) (b:Nat),routesFrom ts L b l=routesFrom ts L' b l:=fun l=>by
  induction l with
  | nil=>intro b;rfl
  | cons x r ih=>intro b;simp only [routesFrom];rw [ih,eto]
 have er:routesR ts L=routesR ts L':=by unfold routesR;rw [efr,he]
 have en:∀ ins,nowL L ins=nowL L' ins:=fun ins=>by funext k;unfold nowL;rw [hl]
 have eg:∀ F k junk,givenR ts L F pl k junk=givenR ts L' F pl k junk:=fun F k junk=>by unfold givenR;rw [er]
 refine ⟨h.formed,h.ops,by rw [← ea];exact h.out,by rw [← ed];exact h.cells,fun ins junk k i j hj=>?_⟩
 have:=h.play ins junk k i j (by rw [ea];exact hj)
 simp only [eg,en,sol_same he hi] at this
 exact this
theorem codeE_same {s:ByteArray}{L L':List Dl} (h:(textF s).1=0→RGood s L) (h':(textF s).1=0→RGood s L') (pl:Int):codeE s L pl=codeE s L' pl:=by
 by_cases h0:(textF s).1=0
 ·have he:=(spell_same (toks_F s) (h h0).sp (h' h0).sp).1
  have ea:atR (toks s) L pl=atR (toks s) L' pl:=by unfold atR atG;rw [he]
  unfold codeE
  rw [ea]
 ·unfold codeE
  rw [if_pos h0,if_pos h0]
end Go.Proofs.YtecegaflhdgfaaaGreat
namespace Go.Proofs.YtecegaflhdgfaaaGreat
open Go.RowKit
attribute [local go_sem ↓] Go.wp_at_zero Go.wp_at_succ
structure CodeQ (s:ByteArray) (L:List Dl) (pl:Int) (B:Nat) (w:World) (vO vC vN vU:Value):Prop where
 no:codeE s L pl≠0→vO = .slice none 0 0∧vC = .slice none 0 0∧vN = .slice none 0 0∧vU = .slice none 0 0
 own:codeE s L pl=0→CodeOwn w B vO vC vN vU (codeC s L pl)
 step:codeE s L pl=0→StepOk (toks s) L pl (codeC s L pl) s.size
theorem code_box {W:World}{N:Nat} (h:W.heap[N]? = some (.cells #[.slice none 0 0,.slice none 0 0,.slice none 0 0,.slice none 0 0] 43)) :
  (∀ o,(W.alloc o).cell? ⟨N,0,none⟩=some (.slice none 0 0))∧(∀ o,(W.alloc o).cell? ⟨N,1,none⟩=some (.slice none 0 0))∧(∀ o,(W.alloc o).cell? ⟨N,2,none⟩=some (.slice none 0 0))∧(∀ o,(W.alloc o).cell? ⟨N,3,none⟩=some (.slice none 0 0))∧(∀ o j,(W.alloc o).frozen? ⟨N,j,none⟩=false):=by
 have hka:∀ o,(W.alloc o).heap[N]? = some (.cells #[.slice none 0 0,.slice none 0 0,.slice none 0 0,.slice none 0 0] 43):=fun o=>(Below.heap_alloc W o N (Array.getElem?_eq_some_iff.1 h).1).trans h
 refine ⟨?_,?_,?_,?_,fun o j=>frozen_of_row _ N j _ _ (hka o)⟩ <;> (intro o;rw [cell_of_row _ N _ _ _ _ (hka o)];rfl)
theorem box_put {W:World}{N:Nat}{q0 q1 q2 q3:Value} (h:W.heap[N]? = some (.cells #[q0,q1,q2,q3] 43)) (u0 u1 u2 u3:Value) {w8:World} (hw:w8=(((W.setCell ⟨N,0,none⟩ u0).setCell ⟨N,1,none⟩ u1).setCell ⟨N,2,none⟩ u2).setCell ⟨N,3,none⟩ u3) :
  w8.cell? ⟨N,0,none⟩=some u0∧w8.cell? ⟨N,1,none⟩=some u1∧w8.cell? ⟨N,2,none⟩=some u2∧w8.cell? ⟨N,3,none⟩=some u3∧(∀ k,k≠N→w8.heap[k]? = W.heap[k]?):=by
 have k8:∀ k,k≠N→w8.heap[k]? = W.heap[k]?:=fun k hk=>by
  rw [hw,heap_setCell_other _ ⟨N,3,none⟩ k _ hk,heap_setCell_other _ ⟨N,2,none⟩ k _ hk,heap_setCell_other _ ⟨N,1,none⟩ k _ hk,heap_setCell_other _ ⟨N,0,none⟩ k _ hk]
 have h0:=heap_setCell_same _ N 0 _ _ u0 h
 have h1:=heap_setCell_same _ N 1 _ _ u1 h0
 have h2:=heap_setCell_same _ N 2 _ _ u2 h1
 have h3:=heap_setCell_same _ N 3 _ _ u3 h2
 have hk8:w8.heap[N]? = some (.cells #[u0,u1,u2,u3] 43):=by rw [hw,h3];rfl
 exact ⟨by rw [cell_of_row w8 _ 0 _ _ _ hk8];rfl,by rw [cell_of_row w8 _ 1 _ _ _ hk8];rfl,by rw [cell_of_row w8 _ 2 _ _ _ hk8];rfl,by rw [cell_of_row w8 _ 3 _ _ _ hk8];rfl,k8⟩
set_option maxHeartbeats 2000000 in
set_option maxRecDepth 100000 in
theorem pcode_any (s:ByteArray) (hs:s.size≤maxLen) (L:List Dl) (hL:(textF s).1=0→RGood s L) (w:World) (pl:Int) :
  Calls Tryz.prog 13 #[.string s,.int .i64 pl] w fun e w'=>∃ vO vC vN vU,e = .returned (.tuple #[.agg #[vO,vC,vN,vU],.int .i64 (codeE s L pl:Int)])∧CodeQ s L pl w.heap.size w' vO vC vN vU∧Below w.heap.size w w':=by
 obtain ⟨w0,hw0⟩:∃ w0,w0=w.alloc (.cells #[.slice none 0 0,.slice none 0 0,.slice none 0 0,.slice none 0 0] 43):=⟨_,rfl⟩
 have hb0:Below w.heap.size w w0:=by rw [hw0];exact (Below.refl _ _).alloc (Nat.le_refl _) _
 have hN0:w.heap.size<w0.heap.size:=by rw [hw0];simp
 have hk0:w0.heap[w.heap.size]? = some (.cells #[.slice none 0 0,.slice none 0 0,.slice none 0 0,.slice none 0 0] 43):=by rw [hw0];exact heap_alloc_new w _
 have HB0:=hide hb0
 have HN0:=hide hN0
 have HK0:=hide hk0
 clear hb0 hN0 hk0
 go_enter Tryz.func13,Tryz.ntmps13
 go_wp2_with fail
 rw [← hw0]
 refine (text_any s w0 hs (good_parse s)).mono ?_
 rintro e w1 ⟨⟨vd,vn,rfl,hr⟩,hb1⟩
 clear hw0
 have HB1:=hide hb1
 have bx:∀ W,Below w0.heap.size w0 W→W.heap[w.heap.size]? = some (.cells #[.slice none 0 0,.slice none 0 0,.slice none 0 0,.slice none 0 0] 43):=fun W hW=>(hW.block _ HN0.out).trans HK0.out
 have HBX:=hide bx
 clear bx hb1
 rcases hr with ⟨h0,rfl,rfl⟩ | ⟨h0,p,hp,⟨a1,n1,c1,rfl⟩,⟨a2,n2,c2,rfl⟩,hod,hon,hdn⟩
 ·have q1:(((textF s).1:Int) != 0)=true:=by rw [bne_iff_ne];omega
  have HSR:Hid (codeE s L pl=(textF s).1):=hide (by unfold codeE;rw [if_pos h0])
  have H0:=hide h0
  have hk1:=HBX.out w1 HB1.out
  obtain ⟨z0,z1,z2,z3,zf⟩:=code_box hk1
  have HK1:=hide hk1
  clear h0 hL hk1
  go_wp2
  obtain ⟨w8,hw8⟩:∃ w8,w8=((((w1.alloc (.cells #[.slice none 0 0,.slice none 0 0] 56)).setCell ⟨w.heap.size,0,none⟩ (.slice none 0 0)).setCell ⟨w.heap.size,1,none⟩ (.slice none 0 0)).setCell ⟨w.heap.size,2,none⟩ (.slice none 0 0)).setCell ⟨w.heap.size,3,none⟩ (.slice none 0 0):=⟨_,rfl⟩
  rw [← hw8]
  have hba:=HB1.out.alloc HB1.out.size (.cells #[.slice none 0 0,.slice none 0 0] 56)
  obtain ⟨r0,r1,r2,r3,r4⟩:=box_put (HBX.out _ hba) _ _ _ _ hw8
  have hb8:Below w.heap.size w w8:=by
   rw [hw8]
   exact ((((HB0.out.trans (hba.mono (Nat.le_of_lt HN0.out))).setCell (Nat.le_refl _) _).setCell (Nat.le_refl _) _).setCell (Nat.le_refl _) _).setCell (Nat.le_refl _) _
  clear hw8
  refine bodyPost_ret (v:=.tuple #[.agg #[.slice none 0 0,.slice none 0 0,.slice none 0 0,.slice none 0 0],.int .i64 ((textF s).1:Int)]) (by simp [results,Tryz.results13,go_sem,r0,r1,r2,r3]) rfl ?_
  exact ⟨_,_,_,_,by rw [HSR.out],⟨fun _=>⟨rfl,rfl,rfl,rfl⟩,fun h=>absurd (HSR.out.symm.trans h) H0.out,fun h=>absurd (HSR.out.symm.trans h) H0.out⟩,hb8⟩
 ·have q1:(((textF s).1:Int) != 0)=false:=by rw [h0];rfl
  have hs':=text_le h0
  have hg:=good_parse s hs' p hp
  have hG:=hL h0
  have hR:=right_of (toks_F s) hG.sp hG.many hG.names hG.cyc
  obtain ⟨g1,g2,hB⟩:=held_of hs' hp hG
  have hW:=know_of hs' hp hG
  obtain ⟨h16,he16⟩:=few_decls hs' hp hG
  have hbd:=bound_names h0 hp
  have hrk:=ranked_of hR hB
  have hlk:=links_held hs' hp hG
  have hrl:=routes_len (toks s) L
  have hbl:(boundN p).length=p.nodes.length:=by simp [boundN]
  have HPA:Hid (∀ o,o = .cells #[.slice a1 n1 c1,.slice a2 n2 c2] 56→ProgAt (w1.alloc o) w1.heap.size p.decls (boundN p) (.slice a1 n1 c1) (.slice a2 n2 c2)):=hide (fun o ho=>by
   subst ho
   exact ⟨by simp,(World.cell?_alloc_at _ _ _ _ rfl).trans rfl,(World.cell?_alloc_at _ _ _ _ rfl).trans rfl,(own_zero hod).alloc _,by rw [hbl];exact (own_zero hon).alloc _⟩)
  have HFR:Hid (∀ W,ProgAt W w1.heap.size p.decls (boundN p) (.slice a1 n1 c1) (.slice a2 n2 c2)→Calls Tryz.prog 27 #[.pointer (some ⟨w1.heap.size,0,none⟩),.int .i64 pl] W fun e w'=>∃ vO vC vN vU,e = .returned (.agg #[vO,vC,vN,vU])∧CodeOwn w' W.heap.size vO vC vN vU (codeC s L pl)∧StepOk (toks s) L pl (codeC s L pl) s.size∧Below W.heap.size W w'):=hide (fun W hPA=>by
   refine (wfor_any W w1.heap.size p.decls (boundN p) _ _ hPA hg.wf pl (by rw [hlk];omega) h16 hbd _ hrk (toks s) L hW hlk hG.sp (by have:=toks_len s;omega)).mono ?_
   rintro e w' ⟨vO,vC,vN,vU,rfl,hc,hO,hb⟩
   rw [← codeC_eq g1 g2] at hc
   exact ⟨vO,vC,vN,vU,rfl,hc,codeC_ok h0 hp hG pl hO,hb⟩)
  have HSR:Hid (codeE s L pl=if (atR (toks s) L pl).length=0 then 8 else 0):=hide (by unfold codeE;rw [if_neg (by rw [h0];decide)])
  clear h0 hL hod hon hdn hg hp hbl hrk h16 he16 hbd hlk hrl hW hB hR hG g1 g2 hs'
  go_wp2_with fail
  refine (HFR.out _ (HPA.out _ rfl)).mono ?_
  rintro e w2 ⟨vO,vC,vN,vU,rfl,hc,hst,hb2⟩
  have hba:=HB1.out.alloc HB1.out.size (.cells #[.slice a1 n1 c1,.slice a2 n2 c2] 56)
  have HB2:Hid (Below w0.heap.size w0 w2):=hide (hba.trans (hb2.mono hba.size))
  have hsz2:w0.heap.size≤w2.heap.size:=HB2.out.size
  have hout:=hst.out
  obtain ⟨aO,cO,rfl,_⟩:=own_shape hc.ops
  obtain ⟨aC,cC,rfl,_⟩:=own_shape hc.cells
  obtain ⟨aN,cN,rfl,_⟩:=own_shape hc.next
  obtain ⟨aU,cU,rfl,_⟩:=own_shape hc.out
  have hk2:=HBX.out w2 HB2.out
  obtain ⟨z0,z1,z2,z3,zf⟩:=code_box hk2
  have HC:Hid (CodeOwn w2 w.heap.size (.slice aO (codeC s L pl).ops.length cO) (.slice aC (codeC s L pl).cells.length cC) (.slice aN (codeC s L pl).next.length cN) (.slice aU (codeC s L pl).out.length cU) (codeC s L pl)):=hide (by
   have hle:w.heap.size≤(w1.alloc (.cells #[.slice a1 n1 c1,.slice a2 n2 c2] 56)).heap.size:=by have:=HB1.out.size;have:=HN0.out;simp;omega
   exact ⟨own_wkO hc.ops hle,own_wkO hc.cells hle,own_wkO hc.next hle,own_wkO hc.out hle,hc.apart⟩)
  have HST:=hide hst
  have HGE:Hid (∀ i,i<4→∀ g,(codeV (.slice aO (codeC s L pl).ops.length cO) (.slice aC (codeC s L pl).cells.length cC) (.slice aN (codeC s L pl).next.length cN) (.slice aU (codeC s L pl).out.length cU) i).ownBlock=some g→g≠w.heap.size∧g<w2.heap.size):=hide (fun i hi g hg=>by
   have h1:=hc.blk i hi g hg
   have:=HB1.out.size;have:=HN0.out
   simp at h1
   omega)
  clear hc hst hb2 hba hk2 HFR HPA
  by_cases hno:(codeC s L pl).out.length=0
  ·have q2:(((codeC s L pl).out.length:Int) == 0)=true:=by rw [hno];rfl
   have HE:Hid (codeE s L pl=8):=hide (by rw [HSR.out,← hout,if_pos hno])
   clear hno hout
   go_wp2
   obtain ⟨w8,hw8⟩:∃ w8,w8=((((w2.alloc (.cells #[.slice aO (codeC s L pl).ops.length cO,.slice aC (codeC s L pl).cells.length cC,.slice aN (codeC s L pl).next.length cN,.slice aU (codeC s L pl).out.length cU] 43)).setCell ⟨w.heap.size,0,none⟩ (.slice none 0 0)).setCell ⟨w.heap.size,1,none⟩ (.slice none 0 0)).setCell ⟨w.heap.size,2,none⟩ (.slice none 0 0)).setCell ⟨w.heap.size,3,none⟩ (.slice none 0 0):=⟨_,rfl⟩
   rw [← hw8]
   have hba:=HB2.out.alloc HB2.out.size (.cells #[.slice aO (codeC s L pl).ops.length cO,.slice aC (codeC s L pl).cells.length cC,.slice aN (codeC s L pl).next.length cN,.slice aU (codeC s L pl).out.length cU] 43)
   obtain ⟨r0,r1,r2,r3,r4⟩:=box_put (HBX.out _ hba) _ _ _ _ hw8
   have hb8:Below w.heap.size w w8:=by
    rw [hw8]
    exact ((((HB0.out.trans (hba.mono (Nat.le_of_lt HN0.out))).setCell (Nat.le_refl _) _).setCell (Nat.le_refl _) _).setCell (Nat.le_refl _) _).setCell (Nat.le_refl _) _
   have h48:∀ i,i<4→∀ g,(codeV (.slice aO (codeC s L pl).ops.length cO) (.slice aC (codeC s L pl).cells.length cC) (.slice aN (codeC s L pl).next.length cN) (.slice aU (codeC s L pl).out.length cU) i).ownBlock=some g→w8.heap[g]? = w2.heap[g]?:=fun i hi g hg=>by
    have h1:=HGE.out i hi g hg
    rw [r4 g h1.1,Below.heap_alloc _ _ _ h1.2]
   clear hw8
   refine bodyPost_ret (v:=.tuple #[.agg #[.slice none 0 0,.slice none 0 0,.slice none 0 0,.slice none 0 0],.int .i64 8]) (by simp [results,Tryz.results13,go_sem,r0,r1,r2,r3]) rfl ?_
   exact ⟨_,_,_,_,by rw [HE.out];rfl,⟨fun _=>⟨rfl,rfl,rfl,rfl⟩,fun h=>absurd (HE.out.symm.trans h) (by decide),fun h=>absurd (HE.out.symm.trans h) (by decide)⟩,hb8⟩
  ·have q2:(((codeC s L pl).out.length:Int) == 0)=false:=by rw [beq_eq_false_iff_ne];omega
   have HE:Hid (codeE s L pl=0):=hide (by rw [HSR.out,← hout,if_neg hno])
   clear hno hout
   go_wp2
   obtain ⟨w8,hw8⟩:∃ w8,w8=((((w2.alloc (.cells #[.slice aO (codeC s L pl).ops.length cO,.slice aC (codeC s L pl).cells.length cC,.slice aN (codeC s L pl).next.length cN,.slice aU (codeC s L pl).out.length cU] 43)).setCell ⟨w.heap.size,0,none⟩ (.slice aO (codeC s L pl).ops.length cO)).setCell ⟨w.heap.size,1,none⟩ (.slice aC (codeC s L pl).cells.length cC)).setCell ⟨w.heap.size,2,none⟩ (.slice aN (codeC s L pl).next.length cN)).setCell ⟨w.heap.size,3,none⟩ (.slice aU (codeC s L pl).out.length cU):=⟨_,rfl⟩
   rw [← hw8]
   have hba:=HB2.out.alloc HB2.out.size (.cells #[.slice aO (codeC s L pl).ops.length cO,.slice aC (codeC s L pl).cells.length cC,.slice aN (codeC s L pl).next.length cN,.slice aU (codeC s L pl).out.length cU] 43)
   obtain ⟨r0,r1,r2,r3,r4⟩:=box_put (HBX.out _ hba) _ _ _ _ hw8
   have hb8:Below w.heap.size w w8:=by
    rw [hw8]
    exact ((((HB0.out.trans (hba.mono (Nat.le_of_lt HN0.out))).setCell (Nat.le_refl _) _).setCell (Nat.le_refl _) _).setCell (Nat.le_refl _) _).setCell (Nat.le_refl _) _
   have h48:∀ i,i<4→∀ g,(codeV (.slice aO (codeC s L pl).ops.length cO) (.slice aC (codeC s L pl).cells.length cC) (.slice aN (codeC s L pl).next.length cN) (.slice aU (codeC s L pl).out.length cU) i).ownBlock=some g→w8.heap[g]? = w2.heap[g]?:=fun i hi g hg=>by
    have h1:=HGE.out i hi g hg
    rw [r4 g h1.1,Below.heap_alloc _ _ _ h1.2]
   clear hw8
   refine bodyPost_ret (v:=.tuple #[.agg #[.slice aO (codeC s L pl).ops.length cO,.slice aC (codeC s L pl).cells.length cC,.slice aN (codeC s L pl).next.length cN,.slice aU (codeC s L pl).out.length cU],.int .i64 0]) (by simp [results,Tryz.results13,go_sem,r0,r1,r2,r3]) rfl ?_
   exact ⟨_,_,_,_,by rw [HE.out];rfl,⟨fun h=>absurd HE.out h,fun _=>⟨own_eqb HC.out.ops (h48 0 (by omega)),own_eqb HC.out.cells (h48 1 (by omega)),own_eqb HC.out.next (h48 2 (by omega)),own_eqb HC.out.out (h48 3 (by omega)),HC.out.apart⟩,fun _=>HST.out⟩,hb8⟩
def NoCode (w:World) (vO vC vN vU:Value) (b:Nat):Prop:=b<w.heap.size∧∀ i,i<4→(codeV vO vC vN vU i).ownBlock≠some b
theorem RoomV.fr {w w':World}{B:Nat}{A:Option Addr}{xs:List Int}{v:Value} (h:RoomV w B A xs v) (hf:∀ b,b<w.heap.size→B≤b→w'.heap[b]? = w.heap[b]?):RoomV w' B A xs v:=by
 rcases h with h | ⟨h1,G,h2,h3,h4⟩
 ·exact .inl h
 ·exact .inr ⟨h1,G,h2,h3,(hf G (Array.getElem?_eq_some_iff.1 h4).1 h2).trans h4⟩
theorem OpsCp.fr {w w':World}{B:Nat}{ops:List OpF}{v:Value} (h:OpsCp w B ops v) (hs:w.heap.size≤w'.heap.size) (hf:∀ b,b<w.heap.size→B≤b→w'.heap[b]? = w.heap[b]?):OpsCp w' B ops v:=by
 obtain ⟨G,h1,h2,h3,h4⟩:=h
 exact ⟨G,h1,Nat.lt_of_lt_of_le h2 hs,h3,fun j hj=>(World.cell?_of_block (w:=w) (a:=⟨G,j,none⟩) (hf G h2 h1)).trans (h4 j hj)⟩
theorem CodeCp.fr {w w':World}{B:Nat}{Ac An Au:Option Addr}{c:CdF}{vO vC vN vU:Value} (h:CodeCp w B Ac An Au c vO vC vN vU) (hs:w.heap.size≤w'.heap.size) (hf:∀ b,b<w.heap.size→B≤b→w'.heap[b]? = w.heap[b]?):CodeCp w' B Ac An Au c vO vC vN vU:=
 ⟨h.ops.fr hs hf,h.cells.fr hf,h.next.fr hf,h.out.fr hf⟩
theorem grownBy_trans' {a b c:World}{r:Option Nat} (h:a.grownBy b r) (k:b.grownBy c r):a.grownBy c r:=
 ⟨k.os.trans h.os,k.tape.trans h.tape,k.output.trans h.output,Nat.le_trans h.size k.size,fun n hn hne=>(k.block n (Nat.lt_of_lt_of_le hn h.size) hne).trans (h.block n hn hne)⟩
theorem grown_none (w:World) (o:Obj):w.grownBy (w.alloc o) none:=⟨rfl,rfl,rfl,by simp,fun k hk _=>Below.heap_alloc w o k hk⟩
theorem own_one (w:World) {B:Nat} (hB:B≤w.heap.size) (o:OwnV):(w.alloc (.cells o.cells.toArray 36)).ownsRow B 36 5 (.slice (some ⟨w.heap.size,0,none⟩) 1 1) 1 (ownCells ([] ++ [o])):=by
 refine ⟨by simp [ownCells,OwnV.cells],.inr ⟨w.heap.size,1,o.cells.toArray,rfl,hB,heap_alloc_new w _,Nat.le_refl _,by unfold maxLen;omega,rfl,?_⟩⟩
 simp [ownCells,OwnV.cells]
set_option maxHeartbeats 8000000 in
set_option maxRecDepth 100000 in
theorem lshared_any (w:World) (B K:Nat) (c:CdF) (vO vC vN vU uO uC uN uU:Value) (Ac An Au:Option Addr) (h:CodeOwn w B vO vC vN vU c) (hk:CodeCp w K Ac An Au c uO uC uN uU) (hn0:An=none→c.next=[]) (hu0:Au=none→c.out=[])
  (h1:c.ops.length≤1500) (h2:c.cells.length≤1500) (h3:c.next.length≤1500) (h4:c.out.length≤1500) (hK:∀ i,i<4→∀ g,(codeV vO vC vN vU i).ownBlock=some g→g<K) :
  Calls Tryz.prog 18 #[.agg #[vO,vC,vN,vU],.agg #[uO,uC,uN,uU]] w fun e w'=>e = .returned (.bool true)∧Fr (NoCode w vO vC vN vU) w w':=by
 obtain ⟨i0,hi0,hz0,hz1,hz2⟩:=info_parts Tryz.infoOwn
 have HH:=hide h
 have HKK:=hide hk
 have HKB:=hide hK
 have HBL:=hide h.blk
 obtain ⟨aO,cO,rfl,hsO⟩:=own_shape h.ops
 obtain ⟨aC,cC,rfl,hsC⟩:=own_shape h.cells
 obtain ⟨aN,cN,rfl,hsN⟩:=own_shape h.next
 obtain ⟨aU,cU,rfl,hsU⟩:=own_shape h.out
 obtain ⟨gk,hgk1,hgk2,rfl,hgk3⟩:=hk.ops
 obtain ⟨bC,nC,kC,rfl⟩:=hk.cells.shape
 obtain ⟨bN,nN,kN,eN⟩:=hk.next.shape
 obtain ⟨bU,nU,kU,eU⟩:=hk.out.shape
 subst eN eU
 obtain ⟨RV,hRV⟩:∃ RV:Nat→Value,RV=fun i=>codeV (.slice aO c.ops.length cO) (.slice aC c.cells.length cC) (.slice aN c.next.length cN) (.slice aU c.out.length cU) (i+1):=⟨_,rfl⟩
 obtain ⟨b0,hb0⟩:∃ b0,b0=(w.alloc (.cells #[.slice aO c.ops.length cO,.slice aC c.cells.length cC,.slice aN c.next.length cN,.slice aU c.out.length cU] 43)).alloc (.cells #[.slice (some ⟨gk,0,none⟩) c.ops.length c.ops.length,.slice bC nC kC,.slice bN nN kN,.slice bU nU kU] 43):=⟨_,rfl⟩
 have s0:b0.heap.size=w.heap.size+2:=by rw [hb0];simp
 have hbb:Below w.heap.size w b0:=by rw [hb0];exact ((Below.refl _ _).alloc (Nat.le_refl _) _).alloc (by simp) _
 have k0:b0.heap[w.heap.size]? = some (.cells #[.slice aO c.ops.length cO,.slice aC c.cells.length cC,.slice aN c.next.length cN,.slice aU c.out.length cU] 43):=by rw [hb0,Below.heap_alloc _ _ _ (by simp)];exact heap_alloc_new w _
 have k1:b0.heap[w.heap.size+1]? = some (.cells #[.slice (some ⟨gk,0,none⟩) c.ops.length c.ops.length,.slice bC nC kC,.slice bN nN kN,.slice bU nU kU] 43):=by rw [hb0];have:=heap_alloc_new (w.alloc (.cells #[.slice aO c.ops.length cO,.slice aC c.cells.length cC,.slice aN c.next.length cN,.slice aU c.out.length cU] 43)) (.cells #[.slice (some ⟨gk,0,none⟩) c.ops.length c.ops.length,.slice bC nC kC,.slice bN nN kN,.slice bU nU kU] 43);rw [World.size_alloc] at this;exact this
 -- what a world that keeps the boxes shows
 have HC:Hid (∀ W:World,W.heap[w.heap.size]? = b0.heap[w.heap.size]?→W.heap[w.heap.size+1]? = b0.heap[w.heap.size+1]?→W.cell? ⟨w.heap.size,0,none⟩=some (.slice aO c.ops.length cO)∧W.cell? ⟨w.heap.size,1,none⟩=some (.slice aC c.cells.length cC)∧W.cell? ⟨w.heap.size,2,none⟩=some (.slice aN c.next.length cN)∧W.cell? ⟨w.heap.size,3,none⟩=some (.slice aU c.out.length cU)∧W.cell? ⟨w.heap.size+1,2,none⟩=some (.slice bN nN kN)∧W.cell? ⟨w.heap.size+1,3,none⟩=some (.slice bU nU kU)):=hide (fun W e0 e1=>by
  rw [k0] at e0
  rw [k1] at e1
  exact ⟨by rw [cell_of_row W _ 0 _ _ _ e0];rfl,by rw [cell_of_row W _ 1 _ _ _ e0];rfl,by rw [cell_of_row W _ 2 _ _ _ e0];rfl,by rw [cell_of_row W _ 3 _ _ _ e0];rfl,by rw [cell_of_row W _ 2 _ _ _ e1];rfl,by rw [cell_of_row W _ 3 _ _ _ e1];rfl⟩)
 have HBB:=hide hbb
 have HS0:=hide s0
 have HSO:=hide hsO
 have HRV:=hide hRV
 have HOP:Hid (∃ xs,b0.ownsRow B 79 4 (.slice aO c.ops.length cO) c.ops.length xs):=hide ⟨_,bel_own h.ops hbb⟩
 clear h hk hK hsO hsC hsN hsU hgk3 s0 hbb k0 k1 hRV
 go_enter Tryz.func18,Tryz.ntmps18
 go_wp2_with fail
 rw [← hb0]
 clear hb0
 go_wp2
 go_loopw [5] (fun vi wr=>∃ k:Nat,k≤c.ops.length∧vi = .int .i64 k∧b0.grownBy wr (Value.slice aO c.ops.length cO).ownBlock∧∃ xs,wr.ownsRow B 79 4 (.slice aO c.ops.length cO) c.ops.length xs) (fun vi _=>c.ops.length - (intOf vi).toNat)
 case atStart=>exact ⟨0,Nat.zero_le _,rfl,⟨rfl,rfl,rfl,Nat.le_refl _,fun _ _ _=>rfl⟩,HOP.out⟩
 case round=>
  obtain ⟨k,hk,rfl,hg,xs,hown⟩:=hrel
  have hs0:=HS0.out
  have hblO:=HBL.out 0 (by omega)
  have e0:wr.heap[w.heap.size]? = b0.heap[w.heap.size]?:=hg.block _ (by omega) (fun e=>by have:=(hblO _ e.symm).2;omega)
  have e1:wr.heap[w.heap.size+1]? = b0.heap[w.heap.size+1]?:=hg.block _ (by omega) (fun e=>by have:=(hblO _ e.symm).2;omega)
  obtain ⟨x0,x1,x2,x3,x4,x5⟩:=HC.out wr e0 e1
  have HG:=hide hg
  have HOWN:=hide hown
  by_cases hkl:k<c.ops.length
  ·obtain ⟨gO,rfl,_,hgO⟩:=HSO.out (by omega)
   have hxl:xs.length=c.ops.length * 4:=hown.1
   have cl:∀ j,j<4→∃ ov,wr.cell? ⟨gO,k * 4+j,none⟩=some ov:=fun j hj=>by
    rw [hown.cellAt (k * 4+j) (by omega),List.getElem?_eq_getElem (by omega)]
    exact ⟨_,rfl⟩
   obtain ⟨o0,c0⟩:=cl 0 (by omega)
   obtain ⟨o1,c1⟩:=cl 1 (by omega)
   obtain ⟨o2,c2⟩:=cl 2 (by omega)
   obtain ⟨o3,c3⟩:=cl 3 (by omega)
   rw [Nat.add_zero] at c0
   have fz:∀ j,wr.frozen? ⟨gO,j,none⟩=false:=fun j=>by
    rcases hown.2 with ⟨e,_⟩ | ⟨g',c',cur,e,_,eh,_⟩
    ·cases e
    ·cases e;exact frozen_of_row wr gO j _ _ eh
   have f0:=fz (k * 4)
   have f1:=fz (k * 4+1)
   have f2:=fz (k * 4+2)
   have f3:=fz (k * 4+3)
   have j1:(0:Int)≤(k:Int):=by omega
   have j2:(k:Int)<(c.ops.length:Int):=by omega
   clear hg hown e0 e1 hblO cl fz hxl
   go_wp2
   go_roundw
   case rel=>
    obtain ⟨p1,q1⟩:=HOWN.out.stored (k * 4) (.int .i64 (-77))
    obtain ⟨p2,q2⟩:=p1.stored (k * 4+1) (.int .i64 0)
    obtain ⟨p3,q3⟩:=p2.stored (k * 4+2) (.int .i64 0)
    obtain ⟨p4,q4⟩:=p3.stored (k * 4+3) (.int .i64 0)
    exact ⟨k+1,by omega,by go_num,grownBy_trans' (grownBy_trans' (grownBy_trans' (grownBy_trans' HG.out q1) q2) q3) q4,_,p4⟩
   case measure=>simp [intOf];omega
  ·have ek:k=c.ops.length:=by omega
   subst ek
   have z9:¬ (c.ops.length:Int)<(c.ops.length:Int):=by omega
   obtain ⟨wL,hwL⟩:∃ wL,wL=wr:=⟨_,rfl⟩
   rw [← hwL] at hg hown x0 x1 x2 x3 x4 x5 HG HOWN e0 e1
   rw [← hwL]
   clear hwL
   have hsL:=hg.size
   have HB3:Hid (∀ i,i<3→∀ g,(RV i).ownBlock=some g→B≤g∧g<wL.heap.size):=hide (fun i hi g hgg=>by
    rw [HRV.out] at hgg
    have:=HBL.out (i+1) (by omega) g hgg
    omega)
   have HAP:Hid (∀ i j,i<3→j<3→i≠j→∀ g,(RV i).ownBlock=some g→(RV j).ownBlock≠some g):=hide (fun i j hi hj hij g hgg=>by
    rw [HRV.out] at hgg ⊢
    exact HH.out.apart (i+1) (j+1) (by omega) (by omega) (by omega) g hgg)
   have HKP:Hid (∀ (W:World) (k:Nat) (os:List OwnV) (vl:Value),Owning wL W 3 k RV os vl→k≤3→(∀ b,b<w.heap.size→(∀ i,i<4→(codeV (.slice aO c.ops.length cO) (.slice aC c.cells.length cC) (.slice aN c.next.length cN) (.slice aU c.out.length cU) i).ownBlock≠some b)→W.heap[b]? = w.heap[b]?)∧W.heap[w.heap.size]? = b0.heap[w.heap.size]?∧W.heap[w.heap.size+1]? = b0.heap[w.heap.size+1]?∧
     (k≤1→W.ownsRow B 3 1 (.slice aN c.next.length cN) c.next.length (iCells c.next))∧(k≤2→W.ownsRow B 3 1 (.slice aU c.out.length cU) c.out.length (iCells c.out))∧CodeCp W K Ac An Au c (.slice (some ⟨gk,0,none⟩) c.ops.length c.ops.length) (.slice bC nC kC) (.slice bN nN kN) (.slice bU nU kU)):=hide (fun W k os vl hW hk3=>by
    have hgen:∀ b,b<b0.heap.size→(Value.slice aO c.ops.length cO).ownBlock≠some b→(∀ l,l<k→(RV l).ownBlock≠some b)→W.heap[b]? = b0.heap[b]?:=fun b hb h1 h2=>(hW.fr b (by omega) h2).trans (HG.out.block b hb (Ne.symm h1))
    have hRVb:∀ l,l<3→∀ g,(RV l).ownBlock=some g→g<w.heap.size:=fun l hl g hgg=>by rw [HRV.out] at hgg;exact (HBL.out (l+1) (by omega) g hgg).2
    have hOb:∀ g,(Value.slice aO c.ops.length cO).ownBlock=some g→g<w.heap.size:=fun g hgg=>(HBL.out 0 (by omega) g hgg).2
    have hold:∀ b,b<w.heap.size→(∀ i,i<4→(codeV (.slice aO c.ops.length cO) (.slice aC c.cells.length cC) (.slice aN c.next.length cN) (.slice aU c.out.length cU) i).ownBlock≠some b)→W.heap[b]? = w.heap[b]?:=fun b hb hi=>(hgen b (by omega) (hi 0 (by omega)) (fun l hl=>by rw [HRV.out];exact hi (l+1) (by omega))).trans (HBB.out.block b hb)
    refine ⟨hold,hgen _ (by omega) (fun e=>by have:=hOb _ e;omega) (fun l hl e=>by have:=hRVb l (by omega) _ e;omega),hgen _ (by omega) (fun e=>by have:=hOb _ e;omega) (fun l hl e=>by have:=hRVb l (by omega) _ e;omega),fun hk1=>?_,fun hk2=>?_,?_⟩
    ·refine own_of HH.out.next (fun g hgg=>?_)
     refine (hgen g (by have:=(HBL.out 2 (by omega) g hgg).2;omega) (HH.out.apart 2 0 (by omega) (by omega) (by omega) g hgg) (fun l hl=>?_)).trans (HBB.out.block g (HBL.out 2 (by omega) g hgg).2)
     rw [HRV.out]
     exact HH.out.apart 2 (l+1) (by omega) (by omega) (by omega) g hgg
    ·refine own_of HH.out.out (fun g hgg=>?_)
     refine (hgen g (by have:=(HBL.out 3 (by omega) g hgg).2;omega) (HH.out.apart 3 0 (by omega) (by omega) (by omega) g hgg) (fun l hl=>?_)).trans (HBB.out.block g (HBL.out 3 (by omega) g hgg).2)
     rw [HRV.out]
     exact HH.out.apart 3 (l+1) (by omega) (by omega) (by omega) g hgg
    ·refine HKK.out.fr (by have:=hW.size;omega) (fun b hb hKb=>hold b hb (fun i hi e=>by have:=HKB.out i hi b e;omega)))
   have HOW0:Hid (Owning wL wL 3 0 RV [] (.slice none 0 0)):=hide ⟨rfl,rfl,rfl,Nat.le_refl _,fun _ _ _=>rfl,rfl,World.ownsRow_nil _ _ _ _,fun o ho=>by simp at ho⟩
   have HCEL:Hid (wL.ownsRow B 3 1 (.slice aC c.cells.length cC) c.cells.length (iCells c.cells)):=hide (by
    refine own_of HH.out.cells (fun g hgg=>?_)
    exact (HG.out.block g (by have:=(HBL.out 1 (by omega) g hgg).2;omega) (fun e=>HH.out.apart 1 0 (by omega) (by omega) (by omega) g hgg e.symm)).trans (HBB.out.block g (HBL.out 1 (by omega) g hgg).2))
   have HO1:=hide (lown_any wL B (.slice aC c.cells.length cC) c.cells (-78) HCEL.out (by omega))
   clear hg hown e0 e1 HOWN HOP hblO
   go_wp2_with fail
   refine HO1.out.mono ?_
   rintro e w2 ⟨o,rfl,ea,en,em,hoat,hgr⟩
   clear ea en em
   have HOA:=hide hoat
   have HGR:=hide hgr
   have hs2:=hgr.size
   have HN1:Hid (Owning wL (w2.alloc (.cells o.cells.toArray 36)) 3 1 RV [o] (.slice (some ⟨w2.heap.size,0,none⟩) 1 1)):=hide (by
    have e:(RV 0).ownBlock=(Value.slice aC c.cells.length cC).ownBlock:=by rw [HRV.out];rfl
    exact HOW0.out.next1 (B:=B) (by omega) HB3.out HAP.out (by rw [e];exact HOA.out) (by rw [e];exact HGR.out) (Below.refl _ _) (grown_none w2 _) (.inr ⟨w2.heap.size,rfl,Nat.le_refl _⟩) (own_one w2 (by omega) o))
   obtain ⟨o1,o2,o3,o4,on,om⟩:=o
   obtain ⟨A1,C1,f1,_⟩:=hoat.a
   obtain ⟨A2,C2,f2,_⟩:=hoat.b
   obtain ⟨A3,C3,f3,_⟩:=hoat.c
   obtain ⟨A4,C4,f4,_⟩:=hoat.d
   simp only at f1 f2 f3 f4
   subst f1 f2 f3 f4
   obtain ⟨W2,hW2⟩:∃ W2,W2=w2.alloc (.cells #[.slice A1 on C1,.slice A2 (on+1) C2,.slice A3 (on+2) C3,.slice A4 (on+6) C4,.int .i64 om] 36):=⟨_,rfl⟩
   have HN1':Hid (Owning wL W2 3 1 RV [⟨.slice A1 on C1,.slice A2 (on+1) C2,.slice A3 (on+2) C3,.slice A4 (on+6) C4,on,om⟩] (.slice (some ⟨w2.heap.size,0,none⟩) 1 1)):=hide (by rw [hW2];exact HN1.out)
   obtain ⟨m0,m1,m2,m3,m4,m5⟩:=HKP.out W2 1 _ _ HN1'.out (by omega)
   clear x0 x1 x2 x3 x4 x5
   obtain ⟨x0,x1,x2,x3,x4,x5⟩:=HC.out W2 m1 m2
   have HSM:=hide (lsame_any W2 _ _ c.next c.next (own_rowN (m3 (by omega)) (by omega) rfl) (m5.next.row hn0 (by omega)))
   rw [show (c.next == c.next)=true by simp] at HSM
   clear hoat hgr m0 m1 m2 m3 m4 m5 HN1 HOA HGR HO1 HCEL HOW0
   subst hW2
   go_wp2_with fail
   refine HSM.out.mono ?_
   rintro e w3 ⟨rfl,hb3⟩
   have HN3:=hide (HN1'.out.below hb3)
   obtain ⟨m0,m1,m2,m3,m4,m5⟩:=HKP.out w3 1 _ _ HN3.out (by omega)
   clear x0 x1 x2 x3 x4 x5
   obtain ⟨x0,x1,x2,x3,x4,x5⟩:=HC.out w3 m1 m2
   have HO2:=hide (lown_any w3 B (.slice aN c.next.length cN) c.next (-79) (m3 (by omega)) (by omega))
   clear hb3 m0 m1 m2 m3 m4 m5 HSM HN1'
   go_wp2_with fail
   refine HO2.out.mono ?_
   rintro e w4 ⟨o,rfl,ea,en,em,hoat,hgr⟩
   clear ea en em
   have HOA:=hide hoat
   have HGR:=hide hgr
   have hs4:=hgr.size
   have hs3L:=HN3.out.size
   have hownl:w4.ownsRow wL.heap.size 36 5 (.slice (some ⟨w2.heap.size,0,none⟩) 1 1) 1 (ownCells [⟨.slice A1 on C1,.slice A2 (on+1) C2,.slice A3 (on+2) C3,.slice A4 (on+6) C4,on,om⟩]):=own_of HN3.out.own (fun b hb=>hgr.block b (HN3.out.own.lt b hb).2 (fun e=>by have h1:=(HN3.out.own.lt b hb).1;have h2:=(HBL.out 2 (by omega) b e.symm).2;omega))
   have HNX:=hide (fun wz w6 vO' h1 h2 h3 h4=>HN3.out.next1 (B:=B) (w5:=w4) (wz:=wz) (w6:=w6) (vO':=vO') (o:=o) (by omega) HB3.out HAP.out (by rw [show (RV 1).ownBlock=(Value.slice aN c.next.length cN).ownBlock by rw [HRV.out];rfl];exact HOA.out) (by rw [show (RV 1).ownBlock=(Value.slice aN c.next.length cN).ownBlock by rw [HRV.out];rfl];exact HGR.out) h1 h2 h3 h4)
   obtain ⟨p1,p2,p3,p4,pn,pm⟩:=o
   obtain ⟨D1,E1,f1,_⟩:=hoat.a
   obtain ⟨D2,E2,f2,_⟩:=hoat.b
   obtain ⟨D3,E3,f3,_⟩:=hoat.c
   obtain ⟨D4,E4,f4,_⟩:=hoat.d
   simp only at f1 f2 f3 f4
   subst f1 f2 f3 f4
   clear hoat hgr x0 x1 x2 x3 x4 x5 HO2 HOA HGR
   go_wp2_with (at_builtin;refine wpList_append_lies _ rfl _ _ _ rfl wL.heap.size 36 i0 _ 5 104 Tryz.underlying23 hi0 hz0 hz1 hz2 rfl (by omega) _ 1 (ownCells [⟨.slice A1 on C1,.slice A2 (on+1) C2,.slice A3 (on+2) C3,.slice A4 (on+6) C4,on,om⟩]) rfl (hownl.alloc _) ⟨w4.heap.size,0,none⟩ 1 1 [.slice D1 pn E1,.slice D2 (pn+1) E2,.slice D3 (pn+2) E3,.slice D4 (pn+6) E4,.int .i64 pm] rfl rfl (World.news_of_block (cs:=#[.slice D1 pn E1,.slice D2 (pn+1) E2,.slice D3 (pn+2) E3,.slice D4 (pn+6) E4,.int .i64 pm]) (t:=36) (fr:=(0,0)) (heap_alloc_new w4 _)) (by simp [Value.oneCell']) (by omega) (by unfold maxLen;omega) (by omega) (by simp;omega) (w4.heap.size+1) (by simp) ?_;intro gg cap2 w6 hown6 hgrow hat hlt6;have HN6:=hide (HNX.out _ w6 (.slice (some ⟨gg,0,none⟩) 2 cap2) ((Below.refl _ _).alloc (Nat.le_refl _) _) hgrow (hat.imp (fun e=>e.symm) (fun e=>⟨gg,rfl,by omega⟩)) (by rw [ownCells_snoc];exact hown6));obtain ⟨m0,m1,m2,m3,m4,m5⟩:=HKP.out w6 2 _ _ HN6.out (by omega);obtain ⟨x0,x1,x2,x3,x4,x5⟩:=HC.out w6 m1 m2)
   have HSM:=hide (lsame_any w6 _ _ c.out c.out (own_rowN (m4 (by omega)) (by omega) rfl) (m5.out.row hu0 (by omega)))
   rw [show (c.out == c.out)=true by simp] at HSM
   clear m0 m1 m2 m3 m4 m5 HNX hownl hown6 hgrow hat HN3
   refine HSM.out.mono ?_
   rintro e w7 ⟨rfl,hb7⟩
   have HN7:=hide (HN6.out.below hb7)
   obtain ⟨m0,m1,m2,m3,m4,m5⟩:=HKP.out w7 2 _ _ HN7.out (by omega)
   clear x0 x1 x2 x3 x4 x5
   obtain ⟨x0,x1,x2,x3,x4,x5⟩:=HC.out w7 m1 m2
   have HO3:=hide (lown_any w7 B (.slice aU c.out.length cU) c.out (-80) (m4 (by omega)) (by omega))
   clear hb7 m0 m1 m2 m3 m4 m5 HSM HN6
   go_wp2_with fail
   refine HO3.out.mono ?_
   rintro e w8 ⟨o,rfl,ea,en,em,hoat,hgr⟩
   clear ea en em
   have HOA:=hide hoat
   have HGR:=hide hgr
   have hs8:=hgr.size
   have hs7L:=HN7.out.size
   have hownl:w8.ownsRow wL.heap.size 36 5 (.slice (some ⟨gg,0,none⟩) 2 cap2) 2 (ownCells ([⟨.slice A1 on C1,.slice A2 (on+1) C2,.slice A3 (on+2) C3,.slice A4 (on+6) C4,on,om⟩] ++ [⟨.slice D1 pn E1,.slice D2 (pn+1) E2,.slice D3 (pn+2) E3,.slice D4 (pn+6) E4,pn,pm⟩])):=own_of HN7.out.own (fun b hb=>hgr.block b (HN7.out.own.lt b hb).2 (fun e=>by have h1:=(HN7.out.own.lt b hb).1;have h2:=(HBL.out 3 (by omega) b e.symm).2;omega))
   have HNX:=hide (fun wz w6 vO' h1 h2 h3 h4=>HN7.out.next1 (B:=B) (w5:=w8) (wz:=wz) (w6:=w6) (vO':=vO') (o:=o) (by omega) HB3.out HAP.out (by rw [show (RV 2).ownBlock=(Value.slice aU c.out.length cU).ownBlock by rw [HRV.out];rfl];exact HOA.out) (by rw [show (RV 2).ownBlock=(Value.slice aU c.out.length cU).ownBlock by rw [HRV.out];rfl];exact HGR.out) h1 h2 h3 h4)
   obtain ⟨r1,r2,r3,r4,rn,rm⟩:=o
   obtain ⟨F1,G1,f1,_⟩:=hoat.a
   obtain ⟨F2,G2,f2,_⟩:=hoat.b
   obtain ⟨F3,G3,f3,_⟩:=hoat.c
   obtain ⟨F4,G4,f4,_⟩:=hoat.d
   simp only at f1 f2 f3 f4
   subst f1 f2 f3 f4
   clear hoat hgr x0 x1 x2 x3 x4 x5 HO3 HOA HGR
   go_wp2_with (at_builtin;refine wpList_append_lies _ rfl _ _ _ rfl wL.heap.size 36 i0 _ 5 104 Tryz.underlying23 hi0 hz0 hz1 hz2 rfl (by omega) _ 2 (ownCells ([⟨.slice A1 on C1,.slice A2 (on+1) C2,.slice A3 (on+2) C3,.slice A4 (on+6) C4,on,om⟩] ++ [⟨.slice D1 pn E1,.slice D2 (pn+1) E2,.slice D3 (pn+2) E3,.slice D4 (pn+6) E4,pn,pm⟩])) rfl (hownl.alloc _) ⟨w8.heap.size,0,none⟩ 1 1 [.slice F1 rn G1,.slice F2 (rn+1) G2,.slice F3 (rn+2) G3,.slice F4 (rn+6) G4,.int .i64 rm] rfl rfl (World.news_of_block (cs:=#[.slice F1 rn G1,.slice F2 (rn+1) G2,.slice F3 (rn+2) G3,.slice F4 (rn+6) G4,.int .i64 rm]) (t:=36) (fr:=(0,0)) (heap_alloc_new w8 _)) (by simp [Value.oneCell']) (by omega) (by unfold maxLen;omega) (by omega) (by simp;omega) (w8.heap.size+1) (by simp) ?_;intro gh cap3 w9 hown9 hgrow hat hlt9;have HN9:=hide (HNX.out _ w9 (.slice (some ⟨gh,0,none⟩) 3 cap3) ((Below.refl _ _).alloc (Nat.le_refl _) _) hgrow (hat.imp (fun e=>e.symm) (fun e=>⟨gh,rfl,by omega⟩)) (by rw [ownCells_snoc];exact hown9)))
   have HEND:Hid (∀ W,Below w9.heap.size w9 W→Fr (NoCode w (.slice aO c.ops.length cO) (.slice aC c.cells.length cC) (.slice aN c.next.length cN) (.slice aU c.out.length cU)) w W):=hide (fun W hW=>by
    have hN:=HN9.out.below hW
    have hk:=(HKP.out W 3 _ _ hN (by omega)).1
    exact ⟨hN.o1.trans (HG.out.os.trans HBB.out.os),hN.o2.trans (HG.out.tape.trans HBB.out.tape),hN.o3.trans (HG.out.output.trans HBB.out.output),by have:=hN.size;have:=HBB.out.size;omega,fun b hb=>hk b hb.1 hb.2⟩)
   obtain ⟨os,hos⟩:∃ os:List OwnV,os=[⟨.slice A1 on C1,.slice A2 (on+1) C2,.slice A3 (on+2) C3,.slice A4 (on+6) C4,on,om⟩] ++ [⟨.slice D1 pn E1,.slice D2 (pn+1) E2,.slice D3 (pn+2) E3,.slice D4 (pn+6) E4,pn,pm⟩] ++ [⟨.slice F1 rn G1,.slice F2 (rn+1) G2,.slice F3 (rn+2) G3,.slice F4 (rn+6) G4,rn,rm⟩]:=⟨_,rfl⟩
   have HOS:Hid (Owning wL w9 3 3 RV os (.slice (some ⟨gh,0,none⟩) 3 cap3)):=hide (by rw [hos];exact HN9.out)
   have hosl:os.length=3:=by rw [hos];rfl
   clear HNX hownl hown9 hgrow hat HN7 HN9 hos
   go_wp2
   go_loopw [9] (fun vj wx=>∃ j:Nat,j≤3∧vj = .int .i64 j∧Below w9.heap.size w9 wx) (fun vj _=>3 - (intOf vj).toNat)
   case atStart=>exact ⟨0,Nat.zero_le _,rfl,by first | exact Below.refl _ _ | exact below_drewN (Below.refl _ _) _⟩
   case round=>
    obtain ⟨j,hj,rfl,hbj⟩:=hrel
    have HBJ:=hide hbj
    by_cases hjk:j<3
    ·have hjo:j<os.length:=by omega
     obtain ⟨o,ho⟩:∃ o,o=os[j]'hjo:=⟨_,rfl⟩
     have hcl:∀ i,i<5→wr.cell? ⟨gh,j * 5+i,none⟩=o.cells[i]?:=fun i hi=>by
      rw [(HOS.out.below hbj).own.cellAt (j * 5+i) (by omega)]
      have e:=flat_get OwnV.cells 5 own5_len os j i hjo hi
      rw [← ho] at e
      exact e
     have c0:wr.cell? ⟨gh,j * 5,none⟩=some o.a:=hcl 0 (by omega)
     have c1:wr.cell? ⟨gh,j * 5+1,none⟩=some o.b:=hcl 1 (by omega)
     have c2:wr.cell? ⟨gh,j * 5+2,none⟩=some o.c:=hcl 2 (by omega)
     have c3:wr.cell? ⟨gh,j * 5+3,none⟩=some o.d:=hcl 3 (by omega)
     have c4:wr.cell? ⟨gh,j * 5+4,none⟩=some (.int .i64 o.m):=hcl 4 (by omega)
     have hom:o∈os:=by rw [ho];exact List.getElem_mem hjo
     have H1:=hide (fun W (hW:Below w9.heap.size w9 W)=>lholds_any W _ o ((HOS.out.below hW).all o hom))
     obtain ⟨A1,C1,e1,_⟩:=(HOS.out.all o hom).a
     obtain ⟨A2,C2,e2,_⟩:=(HOS.out.all o hom).b
     obtain ⟨A3,C3,e3,_⟩:=(HOS.out.all o hom).c
     obtain ⟨A4,C4,e4,_⟩:=(HOS.out.all o hom).d
     simp only [OwnV.val] at H1
     rw [e1,e2,e3,e4] at H1
     rw [e1] at c0
     rw [e2] at c1
     rw [e3] at c2
     rw [e4] at c3
     have j3:(0:Int)≤(j:Int):=by omega
     have j4:(j:Int)<3:=by omega
     generalize o.m=om at c4 H1
     generalize o.n=on at c0 c1 c2 c3 H1
     clear hcl ho e1 e2 e3 e4 hosl
     go_wp2_with fail
     refine (H1.out wr hbj).mono ?_
     rintro e wd ⟨rfl,hbc⟩
     have HBC2:=hide (HBJ.out.trans (hbc.mono HBJ.out.size))
     clear hbc hbj c0 c1 c2 c3 c4 H1
     go_wp2
     go_roundw
     case rel=>exact ⟨j+1,by omega,by go_num,by first | exact HBC2.out | exact below_drewN HBC2.out _⟩
     case measure=>simp [intOf];omega
    ·have ej:j=3:=by omega
     subst ej
     clear hbj hosl
     go_wp2
     go_ret
     exact ⟨rfl,HEND.out _ (by first | exact HBJ.out | exact below_drewN HBJ.out _)⟩
def pickL (c:Int):Nat:=(if c<0 then -(c+1) else c).toNat % 201
theorem pickL_lt (c:Int):pickL c<201:=Nat.mod_lt _ (by omega)
theorem i64_wrapL (x:Int) (h : -9223372036854775808≤x) (h2:x≤9223372036854775807):IntKind.i64.wrap x=x:=by
 rw [IntKind.wrap_i64]
 omega
set_option maxHeartbeats 1000000 in
theorem lpick_any (c:Int) (w:World) (hc : -9223372036854775808≤c) (hc':c≤9223372036854775807) :
  Calls Tryz.prog 15 #[.int .i64 c,.int .i64 201] w fun e w'=>e = .returned (.int .i64 (pickL c:Nat))∧w=w':=by
 by_cases h:c<0
 ·have HP:Hid (((pickL c:Nat):Int)=(-(c+1)) % 201):=hide (by
   unfold pickL;rw [if_pos h,Int.natCast_emod,Int.toNat_of_nonneg (by omega)];rfl)
  have e1:IntKind.i64.wrap (c+1)=c+1:=i64_wrapL _ (by omega) (by omega)
  have e2:IntKind.i64.wrap (-(c+1)) = -(c+1):=i64_wrapL _ (by omega) (by omega)
  go_enter Tryz.func15,Tryz.ntmps15
  go_wp2
  go_ret
  exact ⟨by rw [HP.out,← Int.tmod_eq_emod_of_nonneg (by omega),Int.neg_tmod];rfl,rfl⟩
 ·have HP:Hid (((pickL c:Nat):Int)=c % 201):=hide (by
   unfold pickL;rw [if_neg h,Int.natCast_emod,Int.toNat_of_nonneg (by omega)];rfl)
  go_enter Tryz.func15,Tryz.ntmps15
  go_wp2
  go_ret
  exact ⟨by rw [HP.out,← Int.tmod_eq_emod_of_nonneg (by omega)];rfl,rfl⟩
end Go.Proofs.YtecegaflhdgfaaaGreat
