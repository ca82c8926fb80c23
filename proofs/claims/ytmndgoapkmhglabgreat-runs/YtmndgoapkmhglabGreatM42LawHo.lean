import Derived.Test.YtmndgoapkmhglabGreatM16RefA
import Derived.Test.YtmndgoapkmhglabGreatM30RunX
import Derived.Test.YtmndgoapkmhglabGreatM32OpenT
import Derived.Test.YtmndgoapkmhglabGreatM41WkF
namespace Go.Proofs.YtmndgoapkmhglabGreat
theorem sp_uniq {ts:List Tk} (hF:∀ i,TkF (tkAt ts i)):∀ (t t':Ast) (i:Nat),Sp ts t i→Sp ts t' i→t=t':=by
 intro t
 induction t with
 | leaf=>
  intro t' i h h'
  cases t' with
  | leaf=>rfl
  | neg a=>exact absurd h'.1 h.2
  | ite a b c=>exact absurd h'.1 h.2
  | dly b=>exact absurd h'.1 h.2
  | bin a b=>exact absurd h'.1 h.2
 | neg a iha=>
  intro t' i h h'
  cases t' with
  | leaf=>exact absurd h.1 h'.2
  | neg a'=>rw [iha a' _ h.2.2.1 h'.2.2.1]
  | ite a' b' c'=>have e:=h.2.1.symm.trans h'.2.1;exact absurd e (by decide)
  | dly b'=>exact absurd h.2.1 (leaf_ne2 hF (by unfold leafT;rw [h'.2.1];rfl)).1
  | bin a' b'=>exact absurd h.2.1 (sp_first hF h'.2.1).1
 | ite a b c iha ihb ihc=>
  intro t' i h h'
  cases t' with
  | leaf=>exact absurd h.1 h'.2
  | neg a'=>have e:=h.2.1.symm.trans h'.2.1;exact absurd e (by decide)
  | ite a' b' c'=>
   have e1:=iha a' _ h.2.2.1 h'.2.2.1
   subst e1
   have e2:=ihb b' _ h.2.2.2.1 h'.2.2.2.1
   subst e2
   rw [ihc c' _ h.2.2.2.2.1 h'.2.2.2.2.1]
  | dly b'=>exact absurd h.2.1 (leaf_ne2 hF (by unfold leafT;rw [h'.2.1];rfl)).2.1
  | bin a' b'=>exact absurd h.2.1 (sp_first hF h'.2.1).2
 | dly b ihb=>
  intro t' i h h'
  have hlf:leafT (tkAt ts (i+1))=true:=by unfold leafT;rw [h.2.1];rfl
  cases t' with
  | leaf=>exact absurd h.1 h'.2
  | neg a'=>exact absurd h'.2.1 (leaf_ne2 hF hlf).1
  | ite a' b' c'=>exact absurd h'.2.1 (leaf_ne2 hF hlf).2.1
  | dly b'=>rw [ihb b' _ h.2.2.2.1 h'.2.2.2.1]
  | bin a' b'=>
   have hs:=h'.2.1
   cases a' with
   | leaf=>exact absurd h.2.2.1 (op_ne h'.2.2.1).2.2.2
   | neg x=>exact absurd hs.1 (leaf_ne2 hF hlf).2.2.1
   | ite x y z=>exact absurd hs.1 (leaf_ne2 hF hlf).2.2.1
   | dly x=>exact absurd hs.1 (leaf_ne2 hF hlf).2.2.1
   | bin x y=>exact absurd hs.1 (leaf_ne2 hF hlf).2.2.1
 | bin a b iha ihb=>
  intro t' i h h'
  cases t' with
  | leaf=>exact absurd h.1 h'.2
  | neg a'=>exact absurd h'.2.1 (sp_first hF h.2.1).1
  | ite a' b' c'=>exact absurd h'.2.1 (sp_first hF h.2.1).2
  | dly b'=>
   have hlf:leafT (tkAt ts (i+1))=true:=by unfold leafT;rw [h'.2.1];rfl
   have hs:=h.2.1
   cases a with
   | leaf=>exact absurd h'.2.2.1 (op_ne h.2.2.1).2.2.2
   | neg x=>exact absurd hs.1 (leaf_ne2 hF hlf).2.2.1
   | ite x y z=>exact absurd hs.1 (leaf_ne2 hF hlf).2.2.1
   | dly x=>exact absurd hs.1 (leaf_ne2 hF hlf).2.2.1
   | bin x y=>exact absurd hs.1 (leaf_ne2 hF hlf).2.2.1
  | bin a' b'=>
   have e1:=iha a' _ h.2.1 h'.2.1
   subst e1
   rw [ihb b' _ h.2.2.2.1 h'.2.2.2.1]
def nrm (x:Dl):Dl:=if x.kind=0 then ⟨0,x.i,.leaf⟩ else x
theorem dl_uniq {ts:List Tk} (hF:∀ i,TkF (tkAt ts i)) {x y:Dl} (hi:x.i=y.i) (hx:DlOk ts x) (hy:DlOk ts y):nrm x=nrm y:=by
 obtain ⟨kx,ix,tx⟩:=x
 obtain ⟨ky,iy,ty⟩:=y
 simp only at hi
 subst hi
 unfold DlOk at hx hy
 simp only at hx hy
 rcases hx with ⟨h1,h2,_⟩ | ⟨h1,_,_,_,_,hs,_⟩ <;> rcases hy with ⟨g1,g2,_⟩ | ⟨g1,_,_,_,_,gs,_⟩
 ·subst h1 g1;rfl
 ·rcases g1 with ⟨_,g⟩ | ⟨_,g⟩
  ·have e:=h2.symm.trans g;exact absurd e (by decide)
  ·have e:=h2.symm.trans g;exact absurd e (by decide)
 ·rcases h1 with ⟨_,h⟩ | ⟨_,h⟩
  ·have e:=g2.symm.trans h;exact absurd e (by decide)
  ·have e:=g2.symm.trans h;exact absurd e (by decide)
 ·have e:=sp_uniq hF tx ty _ hs gs
  subst e
  rcases h1 with ⟨rfl,h⟩ | ⟨rfl,h⟩ <;> rcases g1 with ⟨rfl,g⟩ | ⟨rfl,g⟩
  ·rfl
  ·have e:=h.symm.trans g;exact absurd e (by decide)
  ·have e:=h.symm.trans g;exact absurd e (by decide)
  ·rfl
theorem nrm_len {x y:Dl} (h:nrm x=nrm y):x.len=y.len:=by
 unfold nrm at h
 unfold Dl.len
 by_cases hx:x.kind=0 <;> by_cases hy:y.kind=0
 ·rw [if_pos hx,if_pos hy]
 ·rw [if_pos hx,if_neg hy] at h;rw [← h] at hy;exact absurd rfl hy
 ·rw [if_neg hx,if_pos hy] at h;rw [h] at hx;exact absurd rfl hx
 ·rw [if_neg hx,if_neg hy] at h;rw [h]
theorem spell_uniq {ts:List Tk} (hF:∀ i,TkF (tkAt ts i)):∀ (L L':List Dl) (i:Nat),Spell ts L i→Spell ts L' i→L.map nrm=L'.map nrm:=by
 have hend:∀ {x:Dl} {i:Nat},x.i=i→DlOk ts x→(tkAt ts i).kind=0→False:=fun {x i} hi hx hk=>by
  subst hi
  have h0:=(hF x.i).k0 hk
  unfold DlOk at hx
  rcases hx with ⟨_,h,_⟩ | ⟨⟨_,h⟩ | ⟨_,h⟩,_⟩
  all_goals
   rw [show (tkAt ts x.i).l=_ from h] at h0
   revert h0
   decide
 intro L
 induction L with
 | nil=>
  intro L' i h h'
  cases L' with
  | nil=>rfl
  | cons y r=>exact (hend h'.1 h'.2.2.1 h.2).elim
 | cons x r ih=>
  intro L' i h h'
  cases L' with
  | nil=>exact (hend h.1 h.2.2.1 h'.2).elim
  | cons y r'=>
   obtain ⟨h1,h2,h3,h4⟩:=h
   obtain ⟨g1,g2,g3,g4⟩:=h'
   have e:=dl_uniq hF (h1.trans g1.symm) h3 g3
   rw [List.map_cons,List.map_cons,e,ih r' (i+x.len) h4 (by rw [nrm_len e];exact g4)]
theorem eqL_nrm:∀ (L:List Dl),eqL (L.map nrm)=eqL L:=by
 intro L
 induction L with
 | nil=>rfl
 | cons x r ih=>
  unfold eqL at *
  rw [List.map_cons,List.filter_cons,List.filter_cons,ih]
  unfold nrm
  by_cases h:x.kind=0
  ·simp [h]
  ·simp [h]
theorem inL_nrm:∀ (L:List Dl),(inL (L.map nrm)).map Dl.i=(inL L).map Dl.i:=by
 intro L
 induction L with
 | nil=>rfl
 | cons x r ih=>
  unfold inL at *
  rw [List.map_cons,List.filter_cons,List.filter_cons]
  unfold nrm at *
  by_cases h:x.kind=0
  ·simp [h,ih]
  ·simp [h,ih]
theorem spell_same {ts:List Tk} (hF:∀ i,TkF (tkAt ts i)) {L L':List Dl}{i:Nat} (h:Spell ts L i) (h':Spell ts L' i):eqL L=eqL L'∧(inL L).map Dl.i=(inL L').map Dl.i:=by
 have e:=spell_uniq hF L L' i h h'
 exact ⟨by rw [← eqL_nrm L,e,eqL_nrm],by rw [← inL_nrm L,e,inL_nrm]⟩
theorem ix_nm (ts:List Tk) {l:List Dl}{w:List UInt8}:l.findIdx? (nmIs ts w)=(l.map (nameD ts)).findIdx? (fun b=>b.data.toList == w):=by
 rw [List.findIdx?_map];rfl
theorem sol_same {ts:List Tk}{L L':List Dl} (he:eqL L=eqL L') (hi:(inL L).map Dl.i=(inL L').map Dl.i) (ins:List (List Int)):sol ts L ins=sol ts L' ins:=by
 have hV:∀ R w n,valV ts L ins R w n=valV ts L' ins R w n:=fun R w n=>by
  unfold valV
  have e1:inIx ts L w=inIx ts L' w:=by
   unfold inIx
   rw [ix_nm,ix_nm]
   congr 1
   have e:∀ l:List Dl,l.map (nameD ts)=(l.map Dl.i).map fun k=>(tkAt ts (k+1)).text:=fun l=>by rw [List.map_map];rfl
   rw [e,e,hi]
  have e2:eqIx ts L w=eqIx ts L' w:=by unfold eqIx;rw [he]
  rw [e1,e2]
 have key:∀ f j n,solF ts L ins f j n=solF ts L' ins f j n:=by
  intro f
  induction f with
  | zero=>intro j n;rfl
  | succ f ih=>
   intro j n
   have e:solF ts L ins f=solF ts L' ins f:=by funext j n;exact ih j n
   simp only [solF,he]
   have:valV ts L ins (solF ts L ins f)=valV ts L' ins (solF ts L' ins f):=by funext w n;rw [hV,e]
   rw [this]
 funext j n
 unfold sol
 rw [he]
 exact key _ j n
end Go.Proofs.YtmndgoapkmhglabGreat
namespace Go.Proofs.YtmndgoapkmhglabGreat
open Go.RowKit
attribute [local go_sem ↓] Go.wp_at_zero Go.wp_at_succ
set_option maxHeartbeats 4000000 in
set_option maxRecDepth 100000 in
theorem llists_any (w:World) (A:Option Addr) (C:Nat) (ins:List (List Int)) (AS:Nat→Option Addr) (CS:Nat→Nat) (h:ArgL w A C ins AS CS) :
  Calls Tryz.prog 4 #[.slice A ins.length C] w fun e w'=>∃ vo vi,e = .returned (.agg #[vo,vi])∧GivenV w' w.heap.size A ins AS vo vi∧Below w.heap.size w w':=by
 have hnil:=eql_nil (P:=Tryz.prog) 22 36 Tryz.underlying22
 have hfew:=h.few
 cases A with
 | none=>
  have hx:=h.nil rfl
  subst hx
  clear h
  go_enter Tryz.func4,Tryz.ntmps4
  go_wp2
  refine bodyPost_ret (v:=.agg #[.slice none 0 0,.slice none 0 0]) (by simp [results,Tryz.results4,go_sem]) rfl ?_
  exact ⟨_,_,rfl,.inl ⟨rfl,rfl,rfl⟩,(Below.refl _ _).alloc (Nat.le_refl _) _⟩
 | some a=>
  have hm1:=run_make_row' (P:=Tryz.prog) 22 36 (.slice none 0 0) 24 Tryz.underlying22 Tryz.infoIntsE rfl .i64 .i64 (ins.length+1) (by omega) (by omega)
  simp only [show ((ins.length+1:Nat):Int)=(ins.length:Int)+1 from by omega] at hm1
  have hm2:=run_make_row' (P:=Tryz.prog) 22 36 (.slice none 0 0) 24 Tryz.underlying22 Tryz.infoIntsE rfl .i64 .i64 ins.length (by omega) (by omega)
  have HA:=hide h
  clear h
  go_enter Tryz.func4,Tryz.ntmps4
  go_wp2
  go_loopw [6] (fun vi wr=>∃ (k:Nat) (V:Nat→Value),k≤ins.length∧vi = .int .i64 k∧Laying w wr ins AS k V) (fun vi _=>ins.length - (intOf vi).toNat)
  case atStart=>
   refine ⟨0,fun _=>.slice none 0 0,Nat.zero_le _,rfl,⟨?_,?_,?_,?_,?_,fun r hr hk=>by omega⟩⟩
   ·exact (((Below.refl _ _).alloc (Nat.le_refl _) _).alloc (by simp) _).alloc (by simp;omega) _
   ·simp
   ·rw [Below.heap_alloc _ _ _ (by simp;omega),Below.heap_alloc _ _ _ (by simp)];exact heap_alloc_new w _
   ·have:=(World.rowIs_made (w.alloc (.cells #[.slice none 0 0,.slice none 0 0] 25)) (.slice none 0 0) (ins.length+1) 36).alloc (.cells (madeCells #[.slice none 0 0] ins.length) 36)
    simp only [World.size_alloc] at this
    exact this.congr (fun j _=>by simp)
   ·have:=World.rowIs_made ((w.alloc (.cells #[.slice none 0 0,.slice none 0 0] 25)).alloc (.cells (madeCells #[.slice none 0 0] (ins.length+1)) 36)) (.slice none 0 0) ins.length 36
    simp only [World.size_alloc] at this
    exact this.congr (fun j _=>by simp)
  case round=>
   clear hm1 hm2
   obtain ⟨k,V,hk,rfl,hL⟩:=hrel
   have HL:=hide hL
   have hs:=hL.size
   by_cases hkl:k<ins.length
   ·obtain ⟨b,o,hab,hbl,hcell⟩:=HA.out.out (by omega)
    cases hab
    obtain ⟨hrow,hno,hlen⟩:=HA.out.row k hkl
    have x1:=(hL.bel.cell (p:=⟨b,o+k,none⟩) hbl).trans (hcell k hkl)
    have HCALL:=hide (lroomy_any wr (AS k) (CS k) ins[k] (hrow.below hL.bel) hno hlen)
    have j3:(0:Int)≤(k:Int):=by omega
    have j4:(k:Int)<(ins.length:Int):=by omega
    have HNX:=hide (fun w1 hb v hv=>hL.next (w1:=w1) hkl hb v hv)
    have HOC:Hid (∀ w1,Below wr.heap.size wr w1→w1.cell? ⟨w.heap.size+1,k,none⟩=some (.slice none 0 0)∧w1.frozen? ⟨w.heap.size+1,k,none⟩=false∧∀ v,(w1.setCell ⟨w.heap.size+1,k,none⟩ v).cell? ⟨w.heap.size+2,k,none⟩=some (.slice none 0 0)∧(w1.setCell ⟨w.heap.size+1,k,none⟩ v).frozen? ⟨w.heap.size+2,k,none⟩=false):=hide (fun w1 hb=>by
     have h1:w1.rowIs (w.heap.size+1) 36 (ins.length+1) (fun j=>if j<k then V j else .slice none 0 0):=HL.out.out.of_block (hb.block _ (by omega))
     have h2:w1.rowIs (w.heap.size+2) 36 ins.length (fun j=>if j<k then V j else .slice none 0 0):=HL.out.inn.of_block (hb.block _ (by omega))
     have e1:=h1.cell (i:=k) (by omega)
     simp only [Nat.lt_irrefl,if_false] at e1
     refine ⟨e1,h1.frozen k,fun v=>?_⟩
     have h3:=h2.setOther (a:=⟨w.heap.size+1,k,none⟩) (by show w.heap.size+2≠w.heap.size+1;omega) v
     have e2:=h3.cell (i:=k) hkl
     simp only [Nat.lt_irrefl,if_false] at e2
     exact ⟨e2,h3.frozen k⟩)
    generalize ins[k].length=lk at x1 HCALL
    clear hrow hno hlen hcell hL
    go_wp2_with fail
    refine HCALL.out.mono ?_
    rintro e w1 ⟨v,rfl,hv,hb1⟩
    obtain ⟨y1,y2,y3⟩:=HOC.out w1 hb1
    obtain ⟨y4,y5⟩:=y3 v
    have HN:=hide (HNX.out w1 hb1 v hv)
    have hvs:∃ Av nv cv,v = .slice Av nv cv:=by
     rcases hv with ⟨_,rfl⟩ | ⟨_,G,_,rfl,_⟩
     ·exact ⟨_,_,_,rfl⟩
     ·exact ⟨_,_,_,rfl⟩
    obtain ⟨Av,nv,cv,rfl⟩:=hvs
    have j5:(k:Int)<(ins.length:Int)+1:=by omega
    clear hv hb1 y3 HCALL HNX HOC
    go_wp2
    go_roundw
    case rel=>exact ⟨k+1,_,by omega,by go_num,HN.out⟩
    case measure=>simp [intOf];omega
   ·have ek:k=ins.length:=by omega
    subst ek
    have z1:¬ (ins.length:Int)<(ins.length:Int):=by omega
    have hc:(wr.alloc (.cells #[.int .i64 (-77)] 3)).cell? ⟨w.heap.size+1,ins.length,none⟩=some (.slice none 0 0):=by
     have:=(hL.out.alloc (.cells #[.int .i64 (-77)] 3)).cell (i:=ins.length) (by omega)
     simp only [Nat.lt_irrefl,if_false] at this
     exact this
    have hf:(wr.alloc (.cells #[.int .i64 (-77)] 3)).frozen? ⟨w.heap.size+1,ins.length,none⟩=false:=(hL.out.alloc _).frozen _
    have HD:=hide (fun u0 u1=>hL.done u0 u1)
    have HB:Hid (Below w.heap.size w (wr.alloc (.cells #[.int .i64 (-77)] 3))):=hide (hL.bel.alloc (by omega) _)
    have hbx:∀ u,((wr.alloc (.cells #[.int .i64 (-77)] 3)).setCell ⟨w.heap.size+1,ins.length,none⟩ u).heap[w.heap.size]? = some (.cells #[.slice none 0 0,.slice none 0 0] 25):=fun u=>by
     rw [heap_setCell_other _ ⟨w.heap.size+1,ins.length,none⟩ w.heap.size _ (by show w.heap.size≠w.heap.size+1;omega),Below.heap_alloc _ _ _ (by omega)];exact hL.box
    have g0:=fun u=>cell_of_row _ w.heap.size 0 _ _ _ (hbx u)
    have g1:=fun u=>cell_of_row _ w.heap.size 1 _ _ _ (hbx u)
    have g2:=fun u=>frozen_of_row _ w.heap.size 0 _ _ (hbx u)
    have g3:=fun u=>frozen_of_row _ w.heap.size 1 _ _ (hbx u)
    have j5:(ins.length:Int)<(ins.length:Int)+1:=by omega
    have j6:(0:Int)≤(ins.length:Int):=by omega
    clear hbx hL HL
    go_wp2
    refine bodyPost_ret (v:=.agg #[.slice (some ⟨w.heap.size+1,0,none⟩) ins.length (ins.length+1),.slice (some ⟨w.heap.size+2,0,none⟩) ins.length ins.length]) (by simp [results,Tryz.results4,go_sem,g0,g1]) rfl ?_
    exact ⟨_,_,rfl,.inr ⟨by simp,_,_,_,V,rfl,rfl,HD.out _ _⟩,((HB.out.setCell (by show w.heap.size≤w.heap.size+1;omega) _).setCell (Nat.le_refl _) _).setCell (Nat.le_refl _) _⟩
set_option maxHeartbeats 4000000 in
set_option maxRecDepth 100000 in
theorem lstill_any (w:World) (B:Nat) (A:Option Addr) (C:Nat) (ins:List (List Int)) (AS:Nat→Option Addr) (CS:Nat→Nat) (vo vi:Value) (h:ArgL w A C ins AS CS) (hv:GivenV w B A ins AS vo vi) :
  Calls Tryz.prog 13 #[.agg #[vo,vi],.slice A ins.length C] w fun e w'=>e = .returned (.bool true)∧Below w.heap.size w w':=by
 have hnil:=eql_nil (P:=Tryz.prog) 22 36 Tryz.underlying22
 have hfew:=h.few
 rcases hv with ⟨rfl,rfl,rfl⟩ | ⟨hA,go,gi,gm,V,rfl,rfl,hG⟩
 ·have hx:=h.nil rfl
  subst hx
  clear h
  go_enter Tryz.func13,Tryz.ntmps13
  go_wp2
  go_ret
  exact ⟨rfl,(Below.refl _ _).alloc (Nat.le_refl _) _⟩
 ·have HA:=hide h
  have HG:=hide hG
  obtain ⟨bx,hbx⟩:∃ bx,bx=w.alloc (.cells #[.slice (some ⟨go,0,none⟩) ins.length (ins.length+1),.slice (some ⟨gi,0,none⟩) ins.length ins.length] 25):=⟨_,rfl⟩
  have HB0:Hid (Below w.heap.size w bx):=hide (by rw [hbx];exact (Below.refl _ _).alloc (Nat.le_refl _) _)
  have HSZ:Hid (w.heap.size<bx.heap.size):=hide (by rw [hbx];simp)
  have HC:Hid (∀ W,Below bx.heap.size bx W→W.cell? ⟨w.heap.size,0,none⟩=some (.slice (some ⟨go,0,none⟩) ins.length (ins.length+1))∧W.cell? ⟨w.heap.size,1,none⟩=some (.slice (some ⟨gi,0,none⟩) ins.length ins.length)):=hide (fun W hW=>by
   have hN:W.heap[w.heap.size]? = some (.cells #[.slice (some ⟨go,0,none⟩) ins.length (ins.length+1),.slice (some ⟨gi,0,none⟩) ins.length ins.length] 25):=(hW.block w.heap.size HSZ.out).trans (by rw [hbx];exact heap_alloc_new w _)
   exact ⟨by rw [cell_of_row W _ 0 _ _ _ hN];rfl,by rw [cell_of_row W _ 1 _ _ _ hN];rfl⟩)
  have hAs:∃ a,A=some a:=by cases A with | none=>exact absurd rfl hA | some a=>exact ⟨a,rfl⟩
  obtain ⟨a,rfl⟩:=hAs
  clear h hG hA
  go_enter Tryz.func13,Tryz.ntmps13
  go_wp2
  rw [← hbx]
  go_loopw [6] (fun vk wr=>∃ k:Nat,k≤ins.length∧vk = .int .i64 k∧Below bx.heap.size bx wr) (fun vk _=>ins.length - (intOf vk).toNat)
  case atStart=>exact ⟨0,Nat.zero_le _,rfl,Below.refl _ _⟩
  case round=>
   obtain ⟨k,hk,rfl,hbr⟩:=hrel
   obtain ⟨c0,c1⟩:=HC.out wr hbr
   have HBW:=hide (HB0.out.trans (hbr.mono HB0.out.size))
   have hG:=HG.out.below HBW.out
   have hA:=HA.out.below HBW.out
   have HBR:=hide hbr
   by_cases hkl:k<ins.length
   ·obtain ⟨b,o,hab,hbl,hcell⟩:=hA.out (by omega)
    cases hab
    obtain ⟨hrow,hno,hlen⟩:=hA.row k hkl
    have x1:=hcell k hkl
    have x2:wr.cell? ⟨go,k,none⟩=some (V k):=by rw [cell_of_row wr go _ _ _ _ hG.out];simp [List.getElem?_append,hkl]
    have HX:Hid (∀ W,Below bx.heap.size bx W→W.cell? ⟨gi,k,none⟩=some (V k)∧W.cell? ⟨b,o+k,none⟩=some (.slice (AS k) ins[k].length (CS k))):=hide (fun W hW=>by
     have hW':=HB0.out.trans (hW.mono HB0.out.size)
     have hG':=HG.out.below hW'
     obtain ⟨b',o',hab',_,hcell'⟩:=(HA.out.below hW').out (by omega)
     cases hab'
     exact ⟨by rw [cell_of_row W gi _ _ _ _ hG'.inn];simp [hkl],hcell' k hkl⟩)
    have H1:Hid (∀ W,Below bx.heap.size bx W→Calls Tryz.prog 9 #[V k,.slice (AS k) ins[k].length (CS k)] W fun e w'=>e = .returned (.bool true)∧Below W.heap.size W w'):=hide (fun W hW=>by
     have hW':=HB0.out.trans (hW.mono HB0.out.size)
     have:=lsame_any W (V k) (.slice (AS k) ins[k].length (CS k)) ins[k] ins[k] (((HG.out.below hW').rows k hkl).row hno (by omega)) ((HA.out.below hW').row k hkl).1
     rwa [show (ins[k] == ins[k])=true by simp] at this)
    have H2:Hid (∀ W,Below bx.heap.size bx W→Calls Tryz.prog 24 #[V k,.slice (AS k) ins[k].length (CS k)] W fun e w'=>e = .returned (.bool true)∧Below W.heap.size W w'):=hide (fun W hW=>by
     have hW':=HB0.out.trans (hW.mono HB0.out.size)
     exact lwhole_any W B (AS k) (CS k) ins[k] (V k) ((HG.out.below hW').rows k hkl) ((HA.out.below hW').row k hkl).1 hno hlen)
    have j3:(0:Int)≤(k:Int):=by omega
    have j4:(k:Int)<(ins.length:Int):=by omega
    generalize ins[k].length=lk at x1 H1 H2 HX
    generalize hVk:V k=vk at x2 HX H1 H2
    clear hrow hno hlen hcell hG hA hVk
    have g1:w.heap.size<wr.heap.size:=Nat.lt_of_lt_of_le HSZ.out hbr.size
    have g2:go<wr.heap.size:=World.block_lt_of_cell? _ _ x2
    have g3:b<wr.heap.size:=World.block_lt_of_cell? _ _ x1
    go_wp2_with fail
    go_region_held3 (fun w'=>w'.cell? ⟨w.heap.size,0,none⟩=some (.slice (some ⟨go,0,none⟩) ins.length (ins.length+1))∧w'.cell? ⟨go,k,none⟩=some vk∧w'.cell? ⟨b,o+k,none⟩=some (.slice (AS k) lk (CS k))) (go_keep)
     ((go_at_call 9;refine (H1.out _ HBR.out.drew).mono ?_;rintro e w1 ⟨rfl,hb1⟩;have t1:=(hb1.cell (p:=⟨w.heap.size,0,none⟩) g1).trans c0;have t2:=(hb1.cell (p:=⟨go,k,none⟩) g2).trans x2;have t3:=(hb1.cell (p:=⟨b,o+k,none⟩) g3).trans x1))
    rename_i hHeld
    clear hHeld t1 t2 t3
    have HBR1:Hid (Below bx.heap.size bx w1):=hide (HBR.out.drew.trans (hb1.mono HBR.out.size))
    clear c0 c1 x1 x2 hb1 hbr HBW g1 g2 g3
    obtain ⟨c0,c1⟩:=HC.out w1 HBR1.out
    obtain ⟨x2,x1⟩:=HX.out w1 HBR1.out
    have g1:w.heap.size<w1.heap.size:=Nat.lt_of_lt_of_le HSZ.out HBR1.out.size
    have g2:gi<w1.heap.size:=World.block_lt_of_cell? _ _ x2
    have g3:b<w1.heap.size:=World.block_lt_of_cell? _ _ x1
    go_wp2_with fail
    go_region_held3 (fun w'=>w'.cell? ⟨w.heap.size,1,none⟩=some (.slice (some ⟨gi,0,none⟩) ins.length ins.length)∧w'.cell? ⟨gi,k,none⟩=some vk∧w'.cell? ⟨b,o+k,none⟩=some (.slice (AS k) lk (CS k))) (go_keep)
     ((go_at_call 24;refine (H2.out _ HBR1.out.drew).mono ?_;rintro e w2 ⟨rfl,hb2⟩;have t1:=(hb2.cell (p:=⟨w.heap.size,1,none⟩) g1).trans c1;have t2:=(hb2.cell (p:=⟨gi,k,none⟩) g2).trans x2;have t3:=(hb2.cell (p:=⟨b,o+k,none⟩) g3).trans x1))
    rename_i hHeld
    clear hHeld t1 t2 t3
    have HBR2:Hid (Below bx.heap.size bx w2):=hide (HBR1.out.drew.trans (hb2.mono HBR1.out.size))
    clear c0 c1 x1 x2 hb2 g1 g2 g3
    go_wp2
    go_roundw
    case rel=>exact ⟨k+1,by omega,by go_num,by first | exact HBR2.out | exact below_drewN HBR2.out _⟩
    case measure=>simp [intOf];omega
   ·have ek:k=ins.length:=by omega
    subst ek
    have z1:¬ (ins.length:Int)<(ins.length:Int):=by omega
    have x2:wr.cell? ⟨go,ins.length,none⟩=some (.slice (some ⟨gm,0,none⟩) 1 1):=by rw [cell_of_row wr go _ _ _ _ hG.out];simp
    have x3:wr.cell? ⟨gm,0,none⟩=some (.int .i64 (-77)):=by rw [cell_of_row wr gm _ _ _ _ hG.mark];rfl
    have j5:(ins.length:Int)<(ins.length:Int)+1:=by omega
    have j6:(0:Int)≤(ins.length:Int):=by omega
    clear hG hA hbr
    go_wp2
    go_ret
    exact ⟨rfl,by first | exact HBW.out | exact below_drewN HBW.out _⟩
end Go.Proofs.YtmndgoapkmhglabGreat
namespace Go.Proofs.YtmndgoapkmhglabGreat
open Go.RowKit
theorem Tryz.infoOwn:(Tryz.prog.info? 41).map (fun i=>(i.zero,i.size,i.bytes))=some (some (.agg #[.slice none 0 0,.slice none 0 0,.slice none 0 0,.slice none 0 0,.int .i64 0]),5,104):=by kernel_rfl
def ownCells (l:List OwnV):List Value:=l.flatMap OwnV.cells
theorem ownCells_snoc (l:List OwnV) (o:OwnV):ownCells (l ++ [o])=ownCells l ++ o.cells:=by simp [ownCells]
theorem own5_len (o:OwnV):o.cells.length=5:=rfl
theorem GivenV.shape {w:World}{B:Nat}{A:Option Addr}{ins:List (List Int)}{AS:Nat→Option Addr}{vo vi:Value} (h:GivenV w B A ins AS vo vi):∃ ao lo co ai li ci,vo = .slice ao lo co∧vi = .slice ai li ci:=by
 rcases h with ⟨_,rfl,rfl⟩ | ⟨_,go,gi,gm,V,rfl,rfl,_⟩
 ·exact ⟨_,_,_,_,_,_,rfl,rfl⟩
 ·exact ⟨_,_,_,_,_,_,rfl,rfl⟩
structure Owning (w3 wr:World) (m k:Nat) (RV:Nat→Value) (os:List OwnV) (vO:Value):Prop where
 o1:wr.os=w3.os
 o2:wr.tape=w3.tape
 o3:wr.output=w3.output
 size:w3.heap.size≤wr.heap.size
 fr:∀ b,b<w3.heap.size→(∀ l,l<k→(RV l).ownBlock≠some b)→wr.heap[b]? = w3.heap[b]?
 len:os.length=k
 own:wr.ownsRow w3.heap.size 41 5 vO k (ownCells os)
 all:∀ o∈os,OwnAt wr (fun b=>vO.ownBlock≠some b∧∀ l,k≤l→l<m→(RV l).ownBlock≠some b) o
theorem Owning.below {w3 wr w':World}{m k:Nat}{RV:Nat→Value}{os:List OwnV}{vO:Value} (h:Owning w3 wr m k RV os vO) (hb:Below wr.heap.size wr w'):Owning w3 w' m k RV os vO:=
 ⟨hb.os.trans h.o1,hb.tape.trans h.o2,hb.output.trans h.o3,Nat.le_trans h.size hb.size,fun b hb' hl=>(hb.block b (Nat.lt_of_lt_of_le hb' h.size)).trans (h.fr b hb' hl),h.len,bel_own h.own hb,fun o ho=>(h.all o ho).below hb⟩
theorem Owning.bel {w3 wr:World}{m k:Nat}{RV:Nat→Value}{os:List OwnV}{vO:Value} (h:Owning w3 wr m k RV os vO) (hk:k≤m) {B:Nat} (hB:B≤w3.heap.size) (hge:∀ l,l<m→∀ b,(RV l).ownBlock=some b→B≤b):Below B w3 wr:=
 ⟨h.o1,h.o2,h.o3,h.size,fun b hb=>h.fr b (by omega) (fun l hl hb'=>by have:=hge l (by omega) b hb';omega)⟩
end Go.Proofs.YtmndgoapkmhglabGreat
