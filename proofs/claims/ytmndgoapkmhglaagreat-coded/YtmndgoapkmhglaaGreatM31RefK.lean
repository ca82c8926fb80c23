import Derived.Test.YtmndgoapkmhglaaGreatM20OpC
import Derived.Test.YtmndgoapkmhglaaGreatM29RefHa
namespace Go.Proofs.YtmndgoapkmhglaaGreat
open Go.RowKit
attribute [local go_sem ↓] Go.wp_at_zero Go.wp_at_succ
structure RProg (w:World) (q g cap:Nat) (ts:List Tk) (L:List Dl) (vE vA vI vQ:Value):Prop where
 lt:q<w.heap.size
 c0:w.cell? ⟨q,0,none⟩=some (.slice (some ⟨g,0,none⟩) ts.length cap)
 c1:w.cell? ⟨q,1,none⟩=some vE
 c2:w.cell? ⟨q,2,none⟩=some vA
 c3:w.cell? ⟨q,3,none⟩=some vI
 c4:w.cell? ⟨q,4,none⟩=some vQ
 toks:TokAt w g cap ts
 ends:w.ownsRow 0 3 1 vE ts.length (pCells ((List.range ts.length).map (behindF ts)))
 all:w.ownsRow 0 105 6 vA L.length (rdCells (L.map (rdc ts)))
 ins:w.ownsRow 0 105 6 vI (inL L).length (rdCells ((inL L).map (rdc ts)))
 eqs:w.ownsRow 0 105 6 vQ (eqL L).length (rdCells ((eqL L).map (rdc ts)))
theorem RProg.below {w w':World}{q g cap:Nat}{ts:List Tk}{L:List Dl}{vE vA vI vQ:Value} (h:RProg w q g cap ts L vE vA vI vQ) (hb:Below w.heap.size w w'):RProg w' q g cap ts L vE vA vI vQ:=
 ⟨Nat.lt_of_lt_of_le h.lt hb.size,(hb.cell h.lt).trans h.c0,(hb.cell h.lt).trans h.c1,(hb.cell h.lt).trans h.c2,(hb.cell h.lt).trans h.c3,(hb.cell h.lt).trans h.c4,h.toks.below hb,bel_own h.ends hb,bel_own h.all hb,bel_own h.ins hb,bel_own h.eqs hb⟩
abbrev RDc.val (d:RDc):Value:=.agg #[.string d.name,.int .i64 (d.tok:Int),.bool d.input,.bool d.truth,.int .i64 (d.place:Int),.int .i64 (d.body:Int)]
theorem rd_later {w wr:World}{g cap:Nat}{ts:List Tk}{l:List Dl} (h:w.ownsRow 0 105 6 (.slice (some ⟨g,0,none⟩) l.length cap) l.length (rdCells (l.map (rdc ts)))) (hb:Below w.heap.size w wr) (hg:g<w.heap.size) {k:Nat} (hk:k<l.length) (a:RDc) (ha:a=rdc ts (l[k]'hk)) :
  wr.cell? ⟨g,k * 6,none⟩=some (.string a.name)∧wr.cell? ⟨g,k * 6+1,none⟩=some (.int .i64 (a.tok:Int))∧wr.cell? ⟨g,k * 6+2,none⟩=some (.bool a.input)∧wr.cell? ⟨g,k * 6+3,none⟩=some (.bool a.truth)∧
  wr.cell? ⟨g,k * 6+4,none⟩=some (.int .i64 (a.place:Int))∧wr.cell? ⟨g,k * 6+5,none⟩=some (.int .i64 (a.body:Int)):=by
 have hcr:∀ j,j<6→wr.cell? ⟨g,k * 6+j,none⟩=a.cells[j]?:=fun j hj=>by
  rw [hb.cell (p:=⟨g,k * 6+j,none⟩) hg,h.cellAt (k * 6+j) (by omega)]
  have e:=flat_get RDc.cells 6 rd_len (l.map (rdc ts)) k j (by simpa using hk) hj
  rw [List.getElem_map,← ha] at e
  exact e
 exact ⟨hcr 0 (by omega),hcr 1 (by omega),hcr 2 (by omega),hcr 3 (by omega),hcr 4 (by omega),hcr 5 (by omega)⟩
theorem end_later {w wr:World}{g cap:Nat}{ts:List Tk} (h:w.ownsRow 0 3 1 (.slice (some ⟨g,0,none⟩) ts.length cap) ts.length (pCells ((List.range ts.length).map (behindF ts)))) (hb:Below w.heap.size w wr) (hg:g<w.heap.size) {k:Nat} (hk:k<ts.length) :
  wr.cell? ⟨g,k,none⟩=some (.int .i64 (behindF ts k:Nat)):=by
 rw [hb.cell (p:=⟨g,k,none⟩) hg,h.cellAt k (by omega)]
 unfold pCells
 rw [List.getElem?_map,List.getElem?_map,List.getElem?_range hk]
 rfl
set_option maxHeartbeats 1000000 in
theorem rplace_any (w:World) (q g cap:Nat) (ts:List Tk) (L:List Dl) (vE vA vI vQ:Value) (h:RProg w q g cap ts L vE vA vI vQ) (d:RDc) (hd:d.tok<ts.length) :
  Calls Tryz.prog 72 #[.pointer (some ⟨q,0,none⟩),d.val] w fun e w'=>e = .returned (.int .i64 ((tkAt ts d.tok).pos:Nat))∧Below w.heap.size w w':=by
 have c0:∀ o,(w.alloc o).cell? ⟨q,0,none⟩=some (.slice (some ⟨g,0,none⟩) ts.length cap):=fun o=>by rw [World.cell?_alloc_past _ _ _ h.lt];exact h.c0
 obtain ⟨a,ha⟩:∃ a,a=rtok (tkAt ts d.tok):=⟨_,rfl⟩
 have x2:∀ o,(w.alloc o).cell? ⟨g,d.tok * 4+2,none⟩=some (.int .i64 (a.pos:Int)):=fun o=>by
  rw [World.cell?_alloc_past _ _ _ h.toks.lt];exact (h.toks.cells (Below.refl _ _) hd a ha).2.2.1
 have HP:Hid ((tkAt ts d.tok).pos=a.pos):=hide (by rw [ha];rfl)
 have j1:(0:Int)≤(d.tok:Int):=by omega
 have j2:(d.tok:Int)<(ts.length:Int):=by omega
 clear h ha
 go_enter Tryz.func72,Tryz.ntmps72
 go_wp2_with fail
 go_quiet (fail)
 go_wp2
 go_ret
 exact ⟨by rw [HP.out];rfl,below_drewN ((Below.refl _ _).alloc (Nat.le_refl _) _) _⟩
def optI (o:Option Nat):Value:=.int .i64 (match o with | some a=>(a:Int) | none=>-1)
theorem rdc_tok (ts:List Tk) (x:Dl):(rdc ts x).tok=x.i+1∧(rdc ts x).name=nameD ts x:=by unfold rdc;split <;> exact ⟨rfl,rfl⟩
theorem ROk.tok {ts:List Tk}{L:List Dl} (h:ROk ts L) {x:Dl} (hx:x∈L):(rdc ts x).tok<ts.length:=by
 have:=(h.mem hx).1;have:=Dl.len_pos x;rw [(rdc_tok ts x).1];omega
theorem rdc_pos (ts:List Tk) (x:Dl):(tkAt ts (rdc ts x).tok).pos=posD ts x:=by rw [(rdc_tok ts x).1];rfl
theorem pos_le (s:ByteArray) (i:Nat):(tkAt (toks s) i).pos≤s.size:=by
 obtain ⟨h1,_⟩:=tk_pos _ 0 s.data.toList rfl
 rw [toks_list]
 by_cases h:i<(tk 0 s.data.toList).length
 ·rw [tkAt_left h];have:=(h1 _ (tkAt_mem h)).2;rw [size_list];omega
 ·by_cases e:i=(tk 0 s.data.toList).length
  ·rw [e,tkAt_mid];exact Nat.le_refl _
  ·have:tkAt (tk 0 s.data.toList ++ [⟨0,s.size,⟨#[]⟩⟩]) i=tkEnd:=by
    unfold tkAt
    rw [List.getD_eq_getElem?_getD,List.getElem?_eq_none (by simp;omega)]
    rfl
   rw [this];exact Nat.zero_le _
theorem row_at {w:World}{v:Value}{ts:List Tk}{l:List Dl} (h:w.ownsRow 0 105 6 v l.length (rdCells (l.map (rdc ts)))) {k:Nat} (hk:k<l.length) :
  ∃ g cap,v = .slice (some ⟨g,0,none⟩) l.length cap∧g<w.heap.size∧∀ wr,Below w.heap.size w wr→∀ a,a=rdc ts (l[k]'hk)→wr.cell? ⟨g,k * 6,none⟩=some (.string a.name)∧wr.cell? ⟨g,k * 6+1,none⟩=some (.int .i64 (a.tok:Int))∧wr.cell? ⟨g,k * 6+2,none⟩=some (.bool a.input)∧wr.cell? ⟨g,k * 6+3,none⟩=some (.bool a.truth)∧
  wr.cell? ⟨g,k * 6+4,none⟩=some (.int .i64 (a.place:Int))∧wr.cell? ⟨g,k * 6+5,none⟩=some (.int .i64 (a.body:Int)):=by
 obtain ⟨g,cap,rfl,_,h2⟩:=h.form (by omega)
 exact ⟨g,cap,rfl,h2,fun wr hb a ha=>rd_later h hb h2 hk a ha⟩
set_option maxHeartbeats 1000000 in
theorem rmany_any (w:World) (q g cap:Nat) (ts:List Tk) (L:List Dl) (vE vA vI vQ:Value) (h:RProg w q g cap ts L vE vA vI vQ) (ho:ROk ts L) (hp:∀ i,(tkAt ts i).pos≤1500) :
  Calls Tryz.prog 42 #[.pointer (some ⟨q,0,none⟩)] w fun e w'=>e = .returned (optI (manyR ts L))∧Below w.heap.size w w':=by
 obtain ⟨av,cv,hv,_⟩:=own_shape h.eqs
 obtain ⟨ai,ci,hi,_⟩:=own_shape h.ins
 obtain ⟨hm1,hm2,hm3⟩:=ho.many
 have c4:w.cell? ⟨q,4,none⟩=some (.slice av (eqL L).length cv):=by rw [h.c4,hv]
 have c3:w.cell? ⟨q,3,none⟩=some (.slice ai (inL L).length ci):=by rw [h.c3,hi]
 have HR:=hide h
 have HO:=hide ho
 have hp:=hp
 clear h ho
 by_cases hq:12<(eqL L).length
 ·obtain ⟨gq,cq,hvq,hgq,hcq⟩:=row_at HR.out.eqs hq
  obtain ⟨x,hx⟩:∃ x,x=(eqL L)[12]'hq:=⟨_,rfl⟩
  have hxm:x∈L:=(List.mem_filter.1 (by rw [hx];exact List.getElem_mem hq)).1
  obtain ⟨y0,y1,y2,y3,y4,y5⟩:=hcq w (Below.refl _ _) (rdc ts x) (by rw [hx])
  have hE:((eqL L)[12]?).map (posD ts)=some (posD ts x):=by rw [List.getElem?_eq_getElem hq,← hx];rfl
  rw [hvq] at hv
  cases hv
  have ht:=HO.out.tok hxm
  have hpos:=rdc_pos ts x
  have hp12:posD ts x≤1500:=hp _
  have HTX:=hide ht
  have HPX:=hide hpos
  have i1:(12:Int)<((eqL L).length:Int):=by omega
  clear hcq hxm hx ht hpos
  by_cases hi4:4<(inL L).length
  ·obtain ⟨gi,cI,hvi,hgi,hci⟩:=row_at HR.out.ins hi4
   obtain ⟨z,hz⟩:∃ z,z=(inL L)[4]'hi4:=⟨_,rfl⟩
   have hzm:z∈L:=(List.mem_filter.1 (by rw [hz];exact List.getElem_mem hi4)).1
   have hI:((inL L)[4]?).map (posD ts)=some (posD ts z):=by rw [List.getElem?_eq_getElem hi4,← hz];rfl
   rw [hvi] at hi
   cases hi
   have hti:=HO.out.tok hzm
   have hposi:=rdc_pos ts z
   have hp4:posD ts z≤1500:=hp _
   have HCI:=hide (fun wr hb=>hci wr hb (rdc ts z) (by rw [hz]))
   have HTI:=hide hti
   have HPI:=hide hposi
   have i2:(4:Int)<((inL L).length:Int):=by omega
   clear hci hzm hz hti hposi
   go_enter Tryz.func42,Tryz.ntmps42
   go_wp2_with fail
   refine (rplace_any w q g cap ts L _ _ _ _ HR.out (rdc ts x) HTX.out).mono ?_
   rintro e w1 ⟨rfl,hb1⟩
   rw [HPX.out]
   obtain ⟨n1,hn1⟩:∃ n,n=posD ts x:=⟨_,rfl⟩
   rw [← hn1]
   rw [← hn1] at hp12
   have HN1:=hide hn1
   have HB1:=hide hb1
   have c3':=(hb1.cell (p:=⟨q,3,none⟩) HR.out.lt).trans c3
   clear hn1 y0 y1 y2 y3 y4 y5 c3 c4 hb1
   obtain ⟨z0,z1,z2,z3,z4,z5⟩:=HCI.out w1 HB1.out
   go_wp2_with fail
   refine (rplace_any w1 q g cap ts L _ _ _ _ (HR.out.below HB1.out) (rdc ts z) HTI.out).mono ?_
   rintro e w2 ⟨rfl,hb2⟩
   rw [HPI.out]
   obtain ⟨n2,hn2⟩:∃ n,n=posD ts z:=⟨_,rfl⟩
   rw [← hn2]
   rw [← hn2] at hp4
   have HN2:=hide hn2
   have HB2:=hide hb2
   clear hn2 hb2
   have m1:¬ (n1:Int)<0:=by omega
   by_cases hlt:n2<n1
   ·have m2:(n2:Int)<(n1:Int):=by omega
    have HF:Hid (manyR ts L=some n2):=hide (by unfold manyR;rw [hE,hI,← HN1.out,← HN2.out];simp only [less];rw [if_pos hlt])
    clear hlt hE hI
    go_wp2
    go_ret
    exact ⟨by rw [HF.out];rfl,HB1.out.trans (HB2.out.mono HB1.out.size)⟩
   ·have m2:¬ (n2:Int)<(n1:Int):=by omega
    have HF:Hid (manyR ts L=some n1):=hide (by unfold manyR;rw [hE,hI,← HN1.out,← HN2.out];simp only [less];rw [if_neg hlt])
    clear hlt hE hI
    go_wp2
    go_ret
    exact ⟨by rw [HF.out];rfl,HB1.out.trans (HB2.out.mono HB1.out.size)⟩
  ·have i2:¬ (4:Int)<((inL L).length:Int):=by omega
   have hI:((inL L)[4]?).map (posD ts)=none:=by rw [List.getElem?_eq_none (by omega)];rfl
   go_enter Tryz.func42,Tryz.ntmps42
   go_wp2_with fail
   refine (rplace_any w q g cap ts L _ _ _ _ HR.out (rdc ts x) HTX.out).mono ?_
   rintro e w1 ⟨rfl,hb1⟩
   rw [HPX.out]
   obtain ⟨n1,hn1⟩:∃ n,n=posD ts x:=⟨_,rfl⟩
   rw [← hn1]
   rw [← hn1] at hp12
   have HN1:=hide hn1
   have HB1:=hide hb1
   have c3':=(hb1.cell (p:=⟨q,3,none⟩) HR.out.lt).trans c3
   clear hn1 y0 y1 y2 y3 y4 y5 c3 c4 hb1
   have HF:Hid (manyR ts L=some n1):=hide (by unfold manyR;rw [hE,hI,← HN1.out];rfl)
   clear hE hI
   go_wp2
   go_ret
   exact ⟨by rw [HF.out];rfl,HB1.out⟩
 ·have i1:¬ (12:Int)<((eqL L).length:Int):=by omega
  have hE:((eqL L)[12]?).map (posD ts)=none:=by rw [List.getElem?_eq_none (by omega)];rfl
  by_cases hi4:4<(inL L).length
  ·obtain ⟨gi,cI,hvi,hgi,hci⟩:=row_at HR.out.ins hi4
   obtain ⟨z,hz⟩:∃ z,z=(inL L)[4]'hi4:=⟨_,rfl⟩
   have hzm:z∈L:=(List.mem_filter.1 (by rw [hz];exact List.getElem_mem hi4)).1
   have hI:((inL L)[4]?).map (posD ts)=some (posD ts z):=by rw [List.getElem?_eq_getElem hi4,← hz];rfl
   rw [hvi] at hi
   cases hi
   have hti:=HO.out.tok hzm
   have hposi:=rdc_pos ts z
   have hp4:posD ts z≤1500:=hp _
   have HCI:=hide (fun wr hb=>hci wr hb (rdc ts z) (by rw [hz]))
   have HTI:=hide hti
   have HPI:=hide hposi
   have i2:(4:Int)<((inL L).length:Int):=by omega
   clear hci hzm hz hti hposi
   obtain ⟨z0,z1,z2,z3,z4,z5⟩:=HCI.out w (Below.refl _ _)
   go_enter Tryz.func42,Tryz.ntmps42
   go_wp2_with fail
   refine (rplace_any w q g cap ts L _ _ _ _ HR.out (rdc ts z) HTI.out).mono ?_
   rintro e w2 ⟨rfl,hb2⟩
   rw [HPI.out]
   obtain ⟨n2,hn2⟩:∃ n,n=posD ts z:=⟨_,rfl⟩
   rw [← hn2]
   rw [← hn2] at hp4
   have HN2:=hide hn2
   have HB2:=hide hb2
   clear hn2 hb2
   have HF:Hid (manyR ts L=some n2):=hide (by unfold manyR;rw [hE,hI,← HN2.out];rfl)
   clear hE hI
   go_wp2
   go_ret
   exact ⟨by rw [HF.out];rfl,HB2.out⟩
  ·have i2:¬ (4:Int)<((inL L).length:Int):=by omega
   have hI:((inL L)[4]?).map (posD ts)=none:=by rw [List.getElem?_eq_none (by omega)];rfl
   have HF:Hid (manyR ts L=none):=hide (by unfold manyR;rw [hE,hI];rfl)
   clear hE hI
   go_enter Tryz.func42,Tryz.ntmps42
   go_wp2_with fail
   go_ret
   exact ⟨by rw [HF.out];rfl,Below.refl _ _⟩
theorem sp_near {ts:List Tk} (hF:∀ i,TkF (tkAt ts i)) {t:Ast}{i:Nat} (h:Sp ts t i) (hl:i+t.len<ts.length) (h40:lAt ts i=[40]) :
  i+1<ts.length∧(lAt ts (i+1)≠kNot→lAt ts (i+1)≠kIf→behindF ts (i+1)<ts.length):=by
 have hp:=t.len_pos
 cases t with
 | leaf=>exact absurd h40 h.2
 | neg a=>simp only [Ast.len] at hl;exact ⟨by omega,fun h1 _=>absurd h.2.1 h1⟩
 | ite a b c=>simp only [Ast.len] at hl;exact ⟨by omega,fun _ h2=>absurd h.2.1 h2⟩
 | dly b=>
  simp only [Ast.len] at hl
  have hlf:leafT (tkAt ts (i+1))=true:=by unfold leafT;rw [h.2.1];rfl
  refine ⟨by omega,fun _ _=>?_⟩
  rw [behind_sp hF .leaf (i+1) ⟨hlf,(leaf_ne2 hF hlf).2.2.1⟩ (by simp only [Ast.len];omega)]
  simp only [Ast.len];omega
 | bin a b=>
  simp only [Ast.len] at hl
  refine ⟨by omega,fun _ _=>?_⟩
  rw [behind_sp hF a (i+1) h.2.1 (by omega)];omega
theorem rdc_truth (ts:List Tk) {x:Dl} (h:x.kind≠0):(rdc ts x).truth=(x.kind == 2)∧(rdc ts x).body=x.i+5∧(rdc ts x).place=placeD ts x:=by unfold rdc;rw [if_neg h];exact ⟨rfl,rfl,rfl⟩
theorem tok_box (t:RTk) (w:World) {w1:World} (hb:Below (w.heap.size+1) (w.alloc (.cells #[.int .u8 (t.c:Int),.string t.word,.int .i64 (t.pos:Int),.int .i64 (t.n:Int)] 108)) w1) :
  w1.cell? ⟨w.heap.size,0,none⟩=some (.int .u8 (t.c:Int))∧w1.cell? ⟨w.heap.size,1,none⟩=some (.string t.word)∧Below w.heap.size w w1:=by
 have hb':Below (w.alloc (.cells #[.int .u8 (t.c:Int),.string t.word,.int .i64 (t.pos:Int),.int .i64 (t.n:Int)] 108)).heap.size (w.alloc (.cells #[.int .u8 (t.c:Int),.string t.word,.int .i64 (t.pos:Int),.int .i64 (t.n:Int)] 108)) w1:=by
  have e:(w.alloc (.cells #[.int .u8 (t.c:Int),.string t.word,.int .i64 (t.pos:Int),.int .i64 (t.n:Int)] 108)).heap.size=w.heap.size+1:=by simp
  rw [e];exact hb
 obtain ⟨a,b,_,_,c⟩:=tok_step t w w1 hb'
 exact ⟨a,b,c⟩
set_option maxHeartbeats 2000000 in
theorem ris_any (w:World) (q g cap:Nat) (ts:List Tk) (L:List Dl) (vE vA vI vQ:Value) (h:RProg w q g cap ts L vE vA vI vQ) (ho:ROk ts L) (t:Ast) (i:Nat) (hs:Sp ts t i) (hl:i+t.len<ts.length) :
  Calls Tryz.prog 105 #[.pointer (some ⟨q,0,none⟩),.int .i64 (i:Int)] w fun e w'=>e = .returned (.int .u8 (isR ts L i:Nat))∧Below w.heap.size w w':=by
 have hlen:=ho.len
 have hpos:=ho.pos
 have hnear:=sp_near ho.F hs hl
 obtain ⟨hm1,hm2,hm3⟩:=ho.many
 obtain ⟨av,cv,rfl,hsh⟩:=own_shape h.eqs
 obtain ⟨gE,capE,rfl,_,hgE⟩:=h.ends.form (by omega)
 have hil:i<ts.length:=by omega
 obtain ⟨a,ha⟩:∃ a,a=rtok (tkAt ts i):=⟨_,rfl⟩
 have c0:=h.c0
 obtain ⟨x0,x1,x2,x3⟩:=h.toks.cells (Below.refl _ _) hil a ha
 have hc1:=c97 (tkAt ts i)
 have hc3:=c110 (tkAt ts i)
 rw [← ha] at hc1 hc3
 have hk40:=(ho.F i).kw [40] (by decide)
 rw [← ha] at hk40
 have j1:(0:Int)≤(i:Int):=by omega
 have j2:(i:Int)<(ts.length:Int):=by omega
 have HR:=hide h
 have HO:=hide ho
 have HSH:=hide hsh
 clear h ho hsh hs
 by_cases hk1:(tkAt ts i).kind=1
 ·have q1:((a.c:Int) == 97)=true:=by rw [show (97:Int)=((97:Nat):Int) from rfl,beq_cast,hc1,hk1];rfl
  have hw:a.word=(tkAt ts i).text:=by rw [ha];unfold rtok;simp [hk1]
  have HIS:Hid (isR ts L i=if nameT ts L i then 116 else 110):=hide (by unfold isR;rw [if_pos hk1])
  have HWD:=hide hw
  have c4:∀ o,(w.alloc o).cell? ⟨q,4,none⟩=some (.slice av (eqL L).length cv):=fun o=>by rw [World.cell?_alloc_past _ _ _ HR.out.lt];exact HR.out.c4
  clear hw hk1 ha hc1 hc3 hk40 hnear
  go_enter Tryz.func105,Tryz.ntmps105
  go_wp2
  go_loopw [6] (fun vj wx=>∃ m:Nat,m≤(eqL L).length∧vj = .int .i64 m∧Below (w.heap.size+1) (w.alloc (.cells #[.int .u8 (a.c:Int),.string a.word,.int .i64 (a.pos:Int),.int .i64 (a.n:Int)] 108)) wx∧((eqL L).drop m).any (fun x=>(nameD ts x).data.toList == lAt ts i && x.kind == 2)=nameT ts L i) (fun vj _=>(eqL L).length - (intOf vj).toNat)
  case atStart=>exact ⟨0,Nat.zero_le _,rfl,Below.refl _ _,rfl⟩
  case round=>
   clear c4 c0 x0 x1 x2 x3
   obtain ⟨m,hm,rfl,hbx,hrec⟩:=hrel
   obtain ⟨t0,t1,hbw⟩:=tok_box a w hbx
   have c4:=(HR.out.below hbw).c4
   by_cases hml:m<(eqL L).length
   ·obtain ⟨gq,hgq,_,hgq2⟩:=HSH.out (by omega)
    subst hgq
    obtain ⟨x,hx⟩:∃ x,x=(eqL L)[m]'hml:=⟨_,rfl⟩
    have hxk:=(HO.out.eq (x:=x) (by rw [hx];exact List.getElem_mem hml)).2.1
    obtain ⟨d,hd⟩:∃ d,d=rdc ts x:=⟨_,rfl⟩
    obtain ⟨y0,y1,y2,y3,y4,y5⟩:=rd_later HR.out.eqs hbw hgq2 hml d (by rw [hd,hx])
    have hdn:d.name=nameD ts x:=by rw [hd];exact (rdc_tok ts x).2
    have hdt:d.truth=(x.kind == 2):=by rw [hd];exact (rdc_truth ts hxk).1
    rw [List.drop_eq_getElem_cons hml,← hx,List.any_cons] at hrec
    obtain ⟨ee,qE⟩:∃ ee,(d.name.toList == a.word.toList)=ee:=⟨_,rfl⟩
    have eE:((nameD ts x).data.toList == lAt ts i)=ee:=by
     rw [← qE,← hdn,ByteArray.toList_eq,ByteArray.toList_eq,HWD.out];rfl
    rw [eE,← hdt] at hrec
    generalize d.truth=tr at hrec y3
    have HRC:=hide hrec
    have j3:(0:Int)≤(m:Int):=by omega
    have j4:(m:Int)<((eqL L).length:Int):=by omega
    clear hrec hdn hdt hd hx eE hxk
    have hc:ee=false∨(ee=true∧tr=false)∨(ee=true∧tr=true):=by cases ee <;> cases tr <;> simp
    rcases hc with rfl | ⟨rfl,rfl⟩ | ⟨rfl,rfl⟩
    ·have HR2:Hid (((eqL L).drop (m+1)).any (fun x=>(nameD ts x).data.toList == lAt ts i && x.kind == 2)=nameT ts L i):=hide (by rw [← HRC.out];simp)
     clear HRC
     go_wp2_with fail
     go_quiet (fail)
     go_wp2
     go_roundw
     case rel=>exact ⟨m+1,by omega,by go_num,by first | exact hbx | exact below_drewN hbx _,HR2.out⟩
     case measure=>simp [intOf];omega
    ·have HR2:Hid (((eqL L).drop (m+1)).any (fun x=>(nameD ts x).data.toList == lAt ts i && x.kind == 2)=nameT ts L i):=hide (by rw [← HRC.out];simp)
     clear HRC
     go_wp2_with fail
     go_quiet (fail)
     go_wp2
     go_roundw
     case rel=>exact ⟨m+1,by omega,by go_num,by first | exact hbx | exact below_drewN hbx _,HR2.out⟩
     case measure=>simp [intOf];omega
    ·have HR2:Hid (nameT ts L i=true):=hide (by rw [← HRC.out];simp)
     clear HRC
     go_wp2_with fail
     go_quiet (fail)
     go_wp2
     go_ret
     exact ⟨by rw [HIS.out,HR2.out];rfl,by first | exact hbw | exact below_drewN hbw _⟩
   ·have em:m=(eqL L).length:=by omega
    subst em
    rw [List.drop_length] at hrec
    have HR2:Hid (nameT ts L i=false):=hide (by rw [← hrec];rfl)
    have z1:¬ ((eqL L).length:Int)<((eqL L).length:Int):=by omega
    clear hrec
    go_wp2
    go_ret
    exact ⟨by rw [HIS.out,HR2.out];rfl,hbw⟩
 have q1:((a.c:Int) == 97)=false:=by rw [show (97:Int)=((97:Nat):Int) from rfl,beq_cast,hc1];exact beq_eq_false_iff_ne.2 hk1
 by_cases hk3:(tkAt ts i).kind=3
 ·have q2:((a.c:Int) == 110)=true:=by rw [show (110:Int)=((110:Nat):Int) from rfl,beq_cast,hc3,hk3];rfl
  have HIS:Hid (isR ts L i=110):=hide (by unfold isR;rw [if_neg hk1,if_pos hk3])
  clear ha hc1 hc3 hk40 hnear hk1 hk3
  go_enter Tryz.func105,Tryz.ntmps105
  go_wp2
  go_ret
  exact ⟨by rw [HIS.out];rfl,(Below.refl _ _).alloc (Nat.le_refl _) _⟩
 have q2:((a.c:Int) == 110)=false:=by rw [show (110:Int)=((110:Nat):Int) from rfl,beq_cast,hc3];exact beq_eq_false_iff_ne.2 hk3
 by_cases h40:a.l=[40]
 case neg=>
  have q3:=str_no (t:=a.word) h40
  have HIS:Hid (isR ts L i=116):=hide (by unfold isR;rw [if_neg hk1,if_neg hk3,if_pos (fun h=>h40 (hk40.2 h))])
  clear ha hc1 hc3 hk40 hnear hk1 hk3 h40
  go_enter Tryz.func105,Tryz.ntmps105
  go_wp2
  go_ret
  exact ⟨by rw [HIS.out];rfl,(Below.refl _ _).alloc (Nat.le_refl _) _⟩
 have q3:=str_yes (t:=a.word) h40
 have hIS0:isR ts L i=if lAt ts (i+1)=kNot then 116 else if lAt ts (i+1)=kIf then 63 else opR (lAt ts (behindF ts (i+1))):=isR_open HO.out.F (hk40.1 h40)
 obtain ⟨hi1,hbl⟩:=hnear (hk40.1 h40)
 obtain ⟨a1,ha1⟩:∃ a,a=rtok (tkAt ts (i+1)):=⟨_,rfl⟩
 have c0a:∀ o,(w.alloc o).cell? ⟨q,0,none⟩=some (.slice (some ⟨g,0,none⟩) ts.length cap):=fun o=>by rw [World.cell?_alloc_past _ _ _ HR.out.lt];exact HR.out.c0
 have w1:∀ o,(w.alloc o).cell? ⟨g,(i+1) * 4+1,none⟩=some (.string a1.word):=fun o=>by rw [World.cell?_alloc_past _ _ _ HR.out.toks.lt];exact (HR.out.toks.cells (Below.refl _ _) hi1 a1 ha1).2.1
 have hkn:=(HO.out.F (i+1)).kw kNot (by decide)
 have hki:=(HO.out.F (i+1)).kw kIf (by decide)
 rw [← ha1] at hkn hki
 have j3:(0:Int)≤(i:Int)+1:=by omega
 have j4:(i:Int)+1<(ts.length:Int):=by omega
 clear ha hc1 hc3 hk40 hnear hk1 hk3 h40 ha1
 by_cases hn:a1.l=kNot
 ·have q4:=str_yes (t:=a1.word) hn
  simp only [kNot] at q4
  have HIS:Hid (isR ts L i=116):=hide (by rw [hIS0,if_pos (hkn.1 hn)])
  clear hIS0 hkn hki hn hbl
  go_enter Tryz.func105,Tryz.ntmps105
  go_wp2
  go_ret
  exact ⟨by rw [HIS.out];rfl,by first | exact (Below.refl _ _).alloc (Nat.le_refl _) _ | exact below_drewN ((Below.refl _ _).alloc (Nat.le_refl _) _) _⟩
 have q4:=str_no (t:=a1.word) hn
 simp only [kNot] at q4
 by_cases hf:a1.l=kIf
 ·have q5:=str_yes (t:=a1.word) hf
  simp only [kIf] at q5
  have HIS:Hid (isR ts L i=63):=hide (by rw [hIS0,if_neg (fun h=>hn (hkn.2 h)),if_pos (hki.1 hf)])
  clear hIS0 hkn hki hn hbl hf
  go_enter Tryz.func105,Tryz.ntmps105
  go_wp2
  go_ret
  exact ⟨by rw [HIS.out];rfl,by first | exact (Below.refl _ _).alloc (Nat.le_refl _) _ | exact below_drewN ((Below.refl _ _).alloc (Nat.le_refl _) _) _⟩
 have q5:=str_no (t:=a1.word) hf
 simp only [kIf] at q5
 rw [if_neg (fun h=>hn (hkn.2 h)),if_neg (fun h=>hf (hki.2 h))] at hIS0
 have hb2:=hbl (fun h=>hn (hkn.2 h)) (fun h=>hf (hki.2 h))
 have r1:∀ o,(w.alloc o).cell? ⟨gE,i+1,none⟩=some (.int .i64 (behindF ts (i+1):Nat)):=fun o=>by rw [World.cell?_alloc_past _ _ _ hgE];exact end_later HR.out.ends (Below.refl _ _) hgE hi1
 have c1a:∀ o,(w.alloc o).cell? ⟨q,1,none⟩=some (.slice (some ⟨gE,0,none⟩) ts.length capE):=fun o=>by rw [World.cell?_alloc_past _ _ _ HR.out.lt];exact HR.out.c1
 generalize behindF ts (i+1)=b at hb2 r1 hIS0
 obtain ⟨a2,ha2⟩:∃ a,a=rtok (tkAt ts b):=⟨_,rfl⟩
 have w2:∀ o,(w.alloc o).cell? ⟨g,b * 4+1,none⟩=some (.string a2.word):=fun o=>by rw [World.cell?_alloc_past _ _ _ HR.out.toks.lt];exact (HR.out.toks.cells (Below.refl _ _) hb2 a2 ha2).2.1
 have j5:(0:Int)≤(b:Int):=by omega
 have j6:(b:Int)<(ts.length:Int):=by omega
 have kwb:∀ l,kwL.contains l=true→(a2.l=l↔lAt ts b=l):=fun l hl=>by rw [ha2];exact (HO.out.F b).kw l hl
 clear hkn hki hn hf hbl ha2
 by_cases u0:a2.l=kFby
 ·have q6:=str_yes (t:=a2.word) u0
  simp only [kFby] at q6
  have HIS:Hid (isR ts L i=63):=hide (by rw [hIS0,(kwb kFby (by decide)).1 u0];rfl)
  clear hIS0 kwb u0
  go_enter Tryz.func105,Tryz.ntmps105
  go_wp2_with fail
  go_quiet (fail)
  go_wp2
  go_ret
  exact ⟨by rw [HIS.out];rfl,by first | exact (Below.refl _ _).alloc (Nat.le_refl _) _ | exact below_drewN ((Below.refl _ _).alloc (Nat.le_refl _) _) _⟩
 have q6:=str_no (t:=a2.word) u0
 simp only [kFby] at q6
 by_cases u1:a2.l=[43]
 ·have q7:=str_yes (t:=a2.word) u1
  have HIS:Hid (isR ts L i=110):=hide (by rw [hIS0,(kwb [43] (by decide)).1 u1];rfl)
  clear hIS0 kwb u1 u0
  go_enter Tryz.func105,Tryz.ntmps105
  go_wp2_with fail
  go_quiet (fail)
  go_wp2
  go_ret
  exact ⟨by rw [HIS.out];rfl,by first | exact (Below.refl _ _).alloc (Nat.le_refl _) _ | exact below_drewN ((Below.refl _ _).alloc (Nat.le_refl _) _) _⟩
 have q7:=str_no (t:=a2.word) u1
 by_cases u2:a2.l=[45]
 ·have q8:=str_yes (t:=a2.word) u2
  have HIS:Hid (isR ts L i=110):=hide (by rw [hIS0,(kwb [45] (by decide)).1 u2];rfl)
  clear hIS0 kwb u2 u0 u1
  go_enter Tryz.func105,Tryz.ntmps105
  go_wp2_with fail
  go_quiet (fail)
  go_wp2
  go_ret
  exact ⟨by rw [HIS.out];rfl,by first | exact (Below.refl _ _).alloc (Nat.le_refl _) _ | exact below_drewN ((Below.refl _ _).alloc (Nat.le_refl _) _) _⟩
 have q8:=str_no (t:=a2.word) u2
 by_cases u3:a2.l=[42]
 ·have q9:=str_yes (t:=a2.word) u3
  have HIS:Hid (isR ts L i=110):=hide (by rw [hIS0,(kwb [42] (by decide)).1 u3];rfl)
  clear hIS0 kwb u3 u0 u1 u2
  go_enter Tryz.func105,Tryz.ntmps105
  go_wp2_with fail
  go_quiet (fail)
  go_wp2
  go_ret
  exact ⟨by rw [HIS.out];rfl,by first | exact (Below.refl _ _).alloc (Nat.le_refl _) _ | exact below_drewN ((Below.refl _ _).alloc (Nat.le_refl _) _) _⟩
 have q9:=str_no (t:=a2.word) u3
 by_cases u4:a2.l=[47]
 ·have q10:=str_yes (t:=a2.word) u4
  have HIS:Hid (isR ts L i=110):=hide (by rw [hIS0,(kwb [47] (by decide)).1 u4];rfl)
  clear hIS0 kwb u4 u0 u1 u2 u3
  go_enter Tryz.func105,Tryz.ntmps105
  go_wp2_with fail
  go_quiet (fail)
  go_wp2
  go_ret
  exact ⟨by rw [HIS.out];rfl,by first | exact (Below.refl _ _).alloc (Nat.le_refl _) _ | exact below_drewN ((Below.refl _ _).alloc (Nat.le_refl _) _) _⟩
 have q10:=str_no (t:=a2.word) u4
 have HIS:Hid (isR ts L i=116):=hide (by
  rw [hIS0];unfold opR
  rw [if_neg (fun h=>u0 ((kwb kFby (by decide)).2 h)),if_neg]
  rintro (h | h | h | h)
  ·exact u1 ((kwb [43] (by decide)).2 h)
  ·exact u2 ((kwb [45] (by decide)).2 h)
  ·exact u3 ((kwb [42] (by decide)).2 h)
  ·exact u4 ((kwb [47] (by decide)).2 h))
 clear hIS0 kwb u0 u1 u2 u3 u4
 go_enter Tryz.func105,Tryz.ntmps105
 go_wp2_with fail
 go_quiet (fail)
 go_wp2
 go_ret
 exact ⟨by rw [HIS.out];rfl,by first | exact (Below.refl _ _).alloc (Nat.le_refl _) _ | exact below_drewN ((Below.refl _ _).alloc (Nat.le_refl _) _) _⟩
theorem any_take_succ {α:Type} (p:α→Bool) (l:List α) (m:Nat) (h:m<l.length):(l.take (m+1)).any p=((l.take m).any p || p (l[m]'h)):=by
 rw [List.take_succ_eq_append_getElem h,List.any_append];simp
theorem find_range {p:Nat→Bool} (n k:Nat) (h:k<n):(List.range' k (n - k)).find? p=if p k=true then some k else (List.range' (k+1) (n - (k+1))).find? p:=by
 rw [show n - k=(n - (k+1))+1 by omega,List.range'_succ,List.find?_cons]
 cases p k <;> rfl
set_option maxHeartbeats 2000000 in
set_option maxRecDepth 100000 in
theorem rnames_any (w:World) (q g cap:Nat) (ts:List Tk) (L:List Dl) (vE vA vI vQ:Value) (h:RProg w q g cap ts L vE vA vI vQ) (ho:ROk ts L) (hp:∀ i,(tkAt ts i).pos≤1500) :
  Calls Tryz.prog 43 #[.pointer (some ⟨q,0,none⟩)] w fun e w'=>e = .returned (optI (namesR ts L))∧Below w.heap.size w w':=by
 obtain ⟨av,cv,rfl,hsh⟩:=own_shape h.all
 obtain ⟨hm1,hm2,hm3⟩:=ho.many
 have c0:=h.c0
 have hlen:=ho.len
 have HR:=hide h
 have HO:=hide ho
 have HP:=hide hp
 have HSH:=hide hsh
 clear h ho hp hsh
 go_enter Tryz.func43,Tryz.ntmps43
 go_wp2
 go_loopw [3] (fun i wr=>∃ (k:Nat),k≤ts.length∧i = .int .i64 k∧Below w.heap.size w wr∧((List.range' k (ts.length - k)).find? (badNm ts L)).map (fun k=>(tkAt ts k).pos)=namesR ts L) (fun i _=>ts.length - (intOf i).toNat)
 case atStart=>exact ⟨0,Nat.zero_le _,rfl,Below.refl _ _,rfl⟩
 case round=>
  clear c0
  obtain ⟨k,hk,rfl,hbel,hrec⟩:=hrel
  have c0:=(HR.out.below hbel).c0
  by_cases hlt:k<ts.length
  ·obtain ⟨a,ha⟩:∃ a,a=rtok (tkAt ts k):=⟨_,rfl⟩
   obtain ⟨x0,x1,x2,x3⟩:=HR.out.toks.cells hbel hlt a ha
   have j1:(0:Int)≤(k:Int):=by omega
   have j2:(k:Int)<(ts.length:Int):=by omega
   rw [find_range _ _ hlt] at hrec
   have hc:=c97 (tkAt ts k)
   rw [← ha] at hc
   by_cases hnm:(tkAt ts k).kind=1
   ·have q1:((a.c:Int) != 97)=false:=by
     have hc':a.c=97:=by rw [hnm] at hc;simpa using hc
     rw [hc'];rfl
    have hw:a.word=(tkAt ts k).text:=by rw [ha];unfold rtok;simp [hnm]
    have hbn:badNm ts L k=qNm ts L k:=by unfold badNm isNm;rw [hnm];rfl
    rw [hbn] at hrec
    have HRC:=hide hrec
    have HWD:=hide hw
    have HPO:Hid ((tkAt ts k).pos=a.pos):=hide (by rw [ha];rfl)
    have c2:∀ o,(wr.alloc o).cell? ⟨q,2,none⟩=some (.slice av L.length cv):=fun o=>by rw [World.cell?_alloc_past _ _ _ (HR.out.below hbel).lt];exact (HR.out.below hbel).c2
    clear hrec hbn hc hnm ha hw
    go_wp2
    generalize hB:wr.heap.size=B
    go_loopw [5,6,7,8] (fun va vh vs vj wx=>∃ m:Nat,m≤L.length∧vj = .int .i64 m∧va = .bool (aheadR ts (L.take m) k)∧vh = .bool (hereR (L.take m) k)∧vs = .bool (someR ts (L.take m) k)∧Below w.heap.size w wx∧wx.cell? ⟨B,1,none⟩=some (.string a.word)∧wx.cell? ⟨B,2,none⟩=some (.int .i64 (a.pos:Int))∧B<wx.heap.size∧w.heap.size≤B) (fun _ _ _ vj _=>L.length - (intOf vj).toNat)
    case atStart=>
     subst hB
     exact ⟨0,Nat.zero_le _,rfl,by simp [aheadR],by simp [hereR],by simp [someR],hbel.alloc hbel.size _,by simp,by simp,by simp,hbel.size⟩
    case round=>
     clear hB x0 x1 x2 x3 c0 c2 hbel
     obtain ⟨m,hm,rfl,rfl,rfl,rfl,hbx,t1,t2,hBl,hBw⟩:=hrel
     have c2:=(HR.out.below hbx).c2
     by_cases hml:m<L.length
     ·obtain ⟨gA,capA,hvA,hgA,hcA⟩:=row_at HR.out.all hml
      cases hvA
      obtain ⟨x,hx⟩:∃ x,x=L[m]'hml:=⟨_,rfl⟩
      obtain ⟨d,hd⟩:∃ d,d=rdc ts x:=⟨_,rfl⟩
      obtain ⟨y0,y1,y2,y3,y4,y5⟩:=hcA wr hbx d (by rw [hd,hx])
      have hdt:d.tok=x.i+1∧d.name=nameD ts x:=by rw [hd];exact rdc_tok ts x
      have hdl:d.tok<ts.length:=by rw [hd];exact HO.out.tok (by rw [hx];exact List.getElem_mem hml)
      obtain ⟨t,qT⟩:∃ t,((d.tok:Int) == (k:Int))=t:=⟨_,rfl⟩
      obtain ⟨e,qE⟩:∃ e,(d.name.toList == a.word.toList)=e:=⟨_,rfl⟩
      have eT:(x.i+1 == k)=t:=by rw [← qT,← hdt.1,beq_cast]
      have eE:((nameD ts x).data.toList == lAt ts k)=e:=by
       rw [← qE,← hdt.2,ByteArray.toList_eq,ByteArray.toList_eq,HWD.out];rfl
      have eU:decide (x.i+1<k)=decide (d.tok<k):=by rw [hdt.1]
      have HH:Hid (hereR (L.take (m+1)) k=(hereR (L.take m) k || t)):=hide (by
       unfold hereR;rw [any_take_succ _ _ _ hml,← hx,eT])
      have HS:Hid (someR ts (L.take (m+1)) k=(someR ts (L.take m) k || e)):=hide (by
       unfold someR;rw [any_take_succ _ _ _ hml,← hx,eE])
      have HA:Hid (aheadR ts (L.take (m+1)) k=(aheadR ts (L.take m) k || (e && decide (d.tok<k)))):=hide (by
       unfold aheadR;rw [any_take_succ _ _ _ hml,← hx,eE,eU])
      generalize hereR (L.take m) k=b1 at HH ⊢
      generalize someR ts (L.take m) k=b2 at HS ⊢
      generalize aheadR ts (L.take m) k=b3 at HA ⊢
      have j3:(0:Int)≤(m:Int):=by omega
      have j4:(m:Int)<(L.length:Int):=by omega
      have hc1:b1=true∨(b1=false∧t=true)∨(b1=false∧t=false):=by cases b1 <;> cases t <;> simp
      have hc2:(b2=true∧b3=true)∨(b2=true∧b3=false∧e=false)∨(b2=true∧b3=false∧e=true)∨(b2=false∧b3=true∧e=true)∨(b2=false∧b3=true∧e=false)∨(b2=false∧b3=false∧e=false)∨(b2=false∧b3=false∧e=true):=by
       cases b2 <;> cases b3 <;> cases e <;> simp
      have HBX:=hide hbx
      clear hcA hd hx hdt eT eE eU
      rcases hc1 with rfl | ⟨rfl,rfl⟩ | ⟨rfl,rfl⟩
      all_goals
       rcases hc2 with ⟨rfl,rfl⟩ | ⟨rfl,rfl,rfl⟩ | ⟨rfl,rfl,rfl⟩ | ⟨rfl,rfl,rfl⟩ | ⟨rfl,rfl,rfl⟩ | ⟨rfl,rfl,rfl⟩ | ⟨rfl,rfl,rfl⟩
      all_goals
       go_wp2
       go_roundw
       case rel=>exact ⟨m+1,by omega,by go_num,by rw [HA.out];rfl,by rw [HH.out];rfl,by rw [HS.out];rfl,HBX.out.alloc HBX.out.size _,by rw [World.cell?_alloc_past _ _ _ hBl];exact t1,by rw [World.cell?_alloc_past _ _ _ hBl];exact t2,by simp;omega,hBw⟩
       case measure=>simp [intOf];omega
     ·have em:m=L.length:=by omega
      subst em
      rw [List.take_length]
      have z1:¬ (L.length:Int)<(L.length:Int):=by omega
      have hqn:qNm ts L k=((hereR L k && aheadR ts L k) || !someR ts L k):=rfl
      have hrc:=HRC.out
      rw [hqn] at hrc
      have hps:=HP.out k
      rw [HPO.out] at hps
      generalize hereR L k=b1 at hrc ⊢
      generalize someR ts L k=b2 at hrc ⊢
      generalize aheadR ts L k=b3 at hrc ⊢
      have HRX:=hide hrc
      have HBX:=hide hbx
      clear hrc hqn
      cases b1 <;> cases b2 <;> cases b3
      all_goals
       first
       | (have HF:Hid (namesR ts L=some a.pos):=hide (by
            rw [← HRX.out]
            simp [HPO.out])
          clear HRX HRC
          go_wp2
          go_ret
          exact ⟨by rw [HF.out];rfl,HBX.out⟩)
       | (have HN:Hid (((List.range' (k+1) (ts.length - (k+1))).find? (badNm ts L)).map (fun k=>(tkAt ts k).pos)=namesR ts L):=hide (by
            rw [← HRX.out]
            simp)
          clear HRX HRC
          go_wp2
          go_roundw
          case rel=>exact ⟨k+1,by omega,by go_num,HBX.out,HN.out⟩
          case measure=>simp [intOf];omega)
   ·have q1:((a.c:Int) != 97)=true:=by
     have hc':a.c≠97:=fun e=>hnm (by rw [e] at hc;simpa using hc.symm)
     rw [bne_iff_ne];omega
    have hb:badNm ts L k=false:=badNm_no (by unfold isNm;exact beq_eq_false_iff_ne.2 hnm)
    rw [hb,if_neg (by simp)] at hrec
    have HRC:=hide hrec
    clear hrec hb hc hnm ha
    go_wp2
    go_roundw
    case rel=>exact ⟨k+1,by omega,by go_num,hbel.alloc hbel.size _,HRC.out⟩
    case measure=>simp [intOf];omega
  ·have e0:ts.length - k=0:=by omega
   rw [e0] at hrec
   have HF:Hid (namesR ts L=none):=hide (by rw [← hrec];rfl)
   have z1:¬ (k:Int)<(ts.length:Int):=by omega
   clear hrec e0
   go_wp2
   go_ret
   exact ⟨by rw [HF.out];rfl,hbel⟩
end Go.Proofs.YtmndgoapkmhglaaGreat
