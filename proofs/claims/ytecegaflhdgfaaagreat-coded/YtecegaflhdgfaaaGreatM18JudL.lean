import Derived.Test.YtecegaflhdgfaaaGreatM00Cut
import Derived.Test.YtecegaflhdgfaaaGreatM17JudH
namespace Go.Proofs.YtecegaflhdgfaaaGreat
open Go.RowKit
attribute [local go_sem ↓] Go.wp_at_zero Go.wp_at_succ
theorem Tryz.infoRoute:(Tryz.prog.info? 111).map (fun i=>(i.zero,i.size,i.bytes))=some (some (.agg #[.int .i64 0,.int .i64 0,.bool false]),3,24):=by kernel_rfl
def Rt.cells (r:Rt):List Value:=[.int .i64 (r.src:Int),.int .i64 (r.dst:Int),.bool r.late]
def rtCells (l:List Rt):List Value:=l.flatMap Rt.cells
theorem rtCells_snoc (l:List Rt) (t:Rt):rtCells (l ++ [t])=rtCells l ++ t.cells:=by simp [rtCells]
theorem rt_len (t:Rt):t.cells.length=3:=rfl
theorem eqsF_snoc (l:List Dc) (a:Dc):eqsF (l ++ [a])=eqsF l ++ if a.kind=0 then [] else [a]:=by
 unfold eqsF
 rw [List.filter_append]
 by_cases h:a.kind=0
 ·simp [h]
 ·simp [h]
set_option maxHeartbeats 1000000 in
set_option maxRecDepth 100000 in
theorem equations_any (w:World) (q:Nat) (ds:List Dc) (ns:List Nd) (vd vn:Value) (h:ProgAt w q ds ns vd vn) (hdl:ds.length≤1501) :
  Calls Tryz.prog 36 #[.pointer (some ⟨q,0,none⟩)] w fun e w'=>∃ v,e = .returned v∧w'.ownsRow w.heap.size 91 7 v (eqsF ds).length (dcCells (eqsF ds))∧Below w.heap.size w w':=by
 have c0:=h.c0
 obtain ⟨av,cap,rfl,hsh⟩:=own_shape h.decls
 obtain ⟨i0,hi0,hz0,hz1,hz2⟩:=info_parts Tryz.infoDecl
 have HO:=hide h.decls
 have HSH:=hide hsh
 clear h hsh
 go_enter Tryz.func36,Tryz.ntmps36
 go_wp2
 go_loopw [3,11] (fun v i wr=>∃ k:Nat,k≤ds.length∧i = .int .i64 k∧Below w.heap.size w wr∧wr.ownsRow w.heap.size 91 7 v (eqsF (ds.take k)).length (dcCells (eqsF (ds.take k)))) (fun _ i _=>ds.length - (intOf i).toNat)
 case atStart=>exact ⟨0,Nat.zero_le _,rfl,Below.refl _ _,World.ownsRow_nil _ _ _ _⟩
 case round=>
  obtain ⟨k,hk,rfl,hbel,hown⟩:=hrel
  by_cases hlt:k<ds.length
  ·obtain ⟨g,rfl,_,hg2⟩:=HSH.out (by omega)
   obtain ⟨a,ha⟩:∃ a,a=ds[k]'hlt:=⟨_,rfl⟩
   have hes:=eqsF_snoc (ds.take k) (ds[k]'hlt)
   rw [← List.take_succ_eq_append_getElem hlt,← ha] at hes
   obtain ⟨x0,x1,x2,x3,x4,x5,x6⟩:=dc_later HO.out hbel hg2 hlt a ha
   have hel:(eqsF (ds.take k)).length≤k:=Nat.le_trans (List.length_filter_le _ _) (List.length_take_le _ _)
   have j1:(0:Int)≤(k:Int):=by omega
   have j2:(k:Int)<(ds.length:Int):=by omega
   have HES:=hide hes
   have hbs:=hbel.size
   clear ha hes c0
   generalize eqsF (ds.take k)=es at *
   by_cases hk0:a.kind=0
   ·have q0:((a.kind:Int) != 0)=false:=by rw [hk0];rfl
    have HF:Hid (eqsF (ds.take (k+1))=es):=hide (by rw [HES.out,if_pos hk0,List.append_nil])
    clear hk0
    go_wp2
    go_roundw
    case rel=>exact ⟨k+1,by omega,by go_num,hbel.alloc hbel.size _,by rw [HF.out];exact hown.alloc _⟩
    case measure=>simp [intOf];omega
   ·have q0:((a.kind:Int) != 0)=true:=by rw [bne_iff_ne];omega
    have HF:Hid (eqsF (ds.take (k+1))=es ++ [a]):=hide (by rw [HES.out,if_neg hk0])
    clear hk0
    go_wp2_with (at_builtin;refine wpList_append_lies _ rfl _ _ _ rfl w.heap.size 91 i0 _ 7 64 Tryz.underlying53 hi0 hz0 hz1 hz2 rfl (by omega) _ es.length (dcCells es) rfl ((hown.alloc _).alloc _) ⟨wr.heap.size+1,0,none⟩ 1 1 [.int .i64 (a.kind:Int),.int .i64 (a.number:Int),.string a.name,.int .i64 (a.pos:Int),.int .i64 (a.place:Int),.int .i64 (a.root:Int),.int .i64 (a.fin:Int)] rfl rfl (World.news_of_block (cs:=#[.int .i64 (a.kind:Int),.int .i64 (a.number:Int),.string a.name,.int .i64 (a.pos:Int),.int .i64 (a.place:Int),.int .i64 (a.root:Int),.int .i64 (a.fin:Int)]) (t:=91) (fr:=(0,0)) (by have:=heap_alloc_new (wr.alloc (.cells #[.int .i64 (a.kind:Int),.int .i64 (a.number:Int),.string a.name,.int .i64 (a.pos:Int),.int .i64 (a.place:Int),.int .i64 (a.root:Int),.int .i64 (a.fin:Int)] 91)) (.cells #[.int .i64 (a.kind:Int),.int .i64 (a.number:Int),.string a.name,.int .i64 (a.pos:Int),.int .i64 (a.place:Int),.int .i64 (a.root:Int),.int .i64 (a.fin:Int)] 91);simpa using this)) (by simp [Value.oneCell']) (by omega) (by unfold maxLen;omega) (by omega) (by simp;omega) (wr.heap.size+2) (by simp) ?_;intro gg cap2 w1 hown1 hgrow hat hlt1)
    go_roundw
    case rel=>
     refine ⟨k+1,by omega,by go_num,?_,?_⟩
     ·exact ((hbel.alloc hbel.size _).alloc (by simp;omega) _).grown hgrow (by simp;omega) (fun j hj=>ownBlock_ge hown j hj)
     ·rw [HF.out,dcCells_snoc,List.length_append]
      exact hown1
    case measure=>simp [intOf];omega
  ·have ek:ds.take k=ds:=List.take_of_length_le (by omega)
   rw [ek] at hown
   have HOWN:=hide hown
   clear hown ek
   go_wp2
   go_ret
   exact ⟨_,rfl,HOWN.out,hbel⟩
set_option maxHeartbeats 2000000 in
set_option maxRecDepth 100000 in
theorem linksOf_any (w:World) (q:Nat) (ds:List Dc) (ns:List Nd) (vd vn:Value) (h:ProgAt w q ds ns vd vn) (hwf:ProgWf ds ns) :
  Calls Tryz.prog 79 #[.pointer (some ⟨q,0,none⟩)] w fun e w'=>∃ v,e = .returned v∧w'.ownsRow w.heap.size 111 3 v (linksF ds ns).length (rtCells (linksF ds ns))∧Below w.heap.size w w':=by
 have hdl:=hwf.dl
 have c0:=h.c0
 obtain ⟨av,cap,rfl,hsh⟩:=own_shape h.decls
 obtain ⟨i0,hi0,hz0,hz1,hz2⟩:=info_parts Tryz.infoRoute
 have HSH:=hide hsh
 have HP:=hide h
 have HWF:=hide hwf
 clear h hsh hwf
 go_enter Tryz.func79,Tryz.ntmps79
 go_wp2
 go_loopw [3,14] (fun v i wr=>∃ (k:Nat) (L:List Rt),k≤ds.length∧i = .int .i64 k∧Below w.heap.size w wr∧L.length≤4 * k∧L ++ linksFrom ds ns k (ds.drop k)=linksF ds ns∧wr.ownsRow w.heap.size 111 3 v L.length (rtCells L)) (fun _ i _=>ds.length - (intOf i).toNat)
 case atStart=>exact ⟨0,[],Nat.zero_le _,rfl,Below.refl _ _,by simp,rfl,World.ownsRow_nil _ _ _ _⟩
 case round=>
  obtain ⟨k,L,hk,rfl,hbel,hll,hrec,hown⟩:=hrel
  by_cases hlt:k<ds.length
  ·obtain ⟨g,rfl,_,hg2⟩:=HSH.out (by omega)
   obtain ⟨a,ha⟩:∃ a,a=ds[k]'hlt:=⟨_,rfl⟩
   rw [drop_at ds k hlt,← ha] at hrec
   obtain ⟨x0,x1,x2,x3,x4,x5,x6⟩:=dc_later HP.out.decls hbel hg2 hlt a ha
   have hpl:=HWF.out.place a (by rw [ha];exact List.getElem_mem hlt)
   have j1:(0:Int)≤(k:Int):=by omega
   have j2:(k:Int)<(ds.length:Int):=by omega
   simp only [linksFrom] at hrec
   have HREC:=hide hrec
   have HOWN:=hide hown
   clear ha hrec c0 hown
   by_cases hk0:a.kind=0
   ·have q0:((a.kind:Int) == 0)=true:=by rw [hk0];rfl
    have HF:Hid (L ++ linksFrom ds ns (k+1) (ds.drop (k+1))=linksF ds ns):=hide (by rw [← HREC.out,if_pos hk0,List.nil_append])
    clear hk0
    go_wp2
    go_roundw
    case rel=>exact ⟨k+1,L,by omega,by go_num,hbel.alloc hbel.size _,by omega,HF.out,HOWN.out.alloc _⟩
    case measure=>simp [intOf];omega
   ·have q0:((a.kind:Int) == 0)=false:=by rw [beq_eq_false_iff_ne];omega
    have HF:Hid (L ++ (linksTo ds ns k a 4 ++ linksFrom ds ns (k+1) (ds.drop (k+1)))=linksF ds ns):=hide (by rw [← HREC.out,if_neg hk0])
    have HN:Hid ((wr.alloc (.cells #[.int .i64 (a.kind:Int),.int .i64 (a.number:Int),.string a.name,.int .i64 (a.pos:Int),.int .i64 (a.place:Int),.int .i64 (a.root:Int),.int .i64 (a.fin:Int)] 91)).heap[wr.heap.size]? = some (.cells #[.int .i64 (a.kind:Int),.int .i64 (a.number:Int),.string a.name,.int .i64 (a.pos:Int),.int .i64 (a.place:Int),.int .i64 (a.root:Int),.int .i64 (a.fin:Int)] 91)):=hide (heap_alloc_new wr _)
    have hNb:w.heap.size≤wr.heap.size:=hbel.size
    clear hk0 HREC
    go_wp2
    generalize hNN:wr.heap.size=N at *
    have HNN:=hide hNN
    clear hNN
    go_loopw [3,6] (fun v i wx=>∃ p:Nat,p≤4∧i = .int .i64 p∧Below w.heap.size w wx∧wx.ownsRow w.heap.size 111 3 v (L ++ linksTo ds ns k a p).length (rtCells (L ++ linksTo ds ns k a p))∧(∀ gg,v.ownBlock=some gg→gg≠N)∧N<wx.heap.size∧
      wx.heap[N]? = some (.cells #[.int .i64 (a.kind:Int),.int .i64 (a.number:Int),.string a.name,.int .i64 (a.pos:Int),.int .i64 (a.place:Int),.int .i64 (a.root:Int),.int .i64 (a.fin:Int)] 91)) (fun _ i _=>4 - (intOf i).toNat)
    case atStart=>exact ⟨0,by omega,rfl,hbel.alloc hbel.size _,by simp only [linksTo,List.append_nil];exact HOWN.out.alloc _,fun gg hg=>by have:=(HOWN.out.lt gg hg).2;have:=HNN.out;omega,by simp;have:=HNN.out;omega,HN.out⟩
    case round=>
     clear hbel HOWN HN HNN
     obtain ⟨p,hp,rfl,hbx,hown,hvb,hNl,hNc⟩:=hrel
     by_cases hpl4:p<4
     ·obtain ⟨d0,d1,d2,d3,d4,d5,d6⟩:=row7 hNc
      have j3:(0:Int)≤(p:Int):=by omega
      have j4:(p:Int)<4:=by omega
      have hLt:=linksTo_len ds ns k a p
      have HL:Hid (L ++ linksTo ds ns k a (p+1)=(L ++ linksTo ds ns k a p) ++ linkAt ds ns k a p):=hide (by simp [linksTo])
      have hlen:(L ++ linksTo ds ns k a p).length≤6010:=by simp;omega
      have HNC:=hide hNc
      have HVB:=hide hvb
      clear hNc hvb
      go_wp2_with fail
      refine (uses_any _ q ds ns _ _ (HP.out.below hbx) HWF.out k p).mono ?_
      rintro e w2 ⟨rfl,hb2⟩
      have hbx2:Below w.heap.size w w2:=hbx.trans (hb2.mono hbx.size)
      have hown2:=bel_own hown hb2
      have hNc2:=(hb2.block N hNl).trans HNC.out
      have hNl2:N<w2.heap.size:=Nat.lt_of_lt_of_le hNl hb2.size
      clear hown hbx hb2 HNC hNl d0 d1 d2 d3 d4 d5 d6
      obtain ⟨d0,d1,d2,d3,d4,d5,d6⟩:=row7 hNc2
      have HNC:=hide hNc2
      have HLA:Hid (linkAt ds ns k a p=if (usesF ds ns k p).1=true∧p≠a.place then [⟨a.number,p,!(usesF ds ns k p).2⟩] else []):=hide rfl
      clear hNc2
      generalize (usesF ds ns k p).1=ub at *
      generalize (usesF ds ns k p).2=pb at *
      generalize L ++ linksTo ds ns k a p=LL at *
      by_cases hpp:p=a.place
      ·have q1:((p:Int) != (a.place:Int))=false:=by rw [hpp];simp
       have HF:Hid (L ++ linksTo ds ns k a (p+1)=LL):=hide (by rw [HL.out,HLA.out,if_neg (fun h=>h.2 hpp),List.append_nil])
       clear hpp
       cases ub
       all_goals
        go_wp2
        go_roundw
        case rel=>exact ⟨p+1,by omega,by go_num,hbx2,by rw [HF.out];exact hown2,HVB.out,hNl2,HNC.out⟩
        case measure=>simp [intOf];omega
      ·have q1:((p:Int) != (a.place:Int))=true:=by rw [bne_iff_ne];omega
       cases ub
       ·have HF:Hid (L ++ linksTo ds ns k a (p+1)=LL):=hide (by rw [HL.out,HLA.out,if_neg (fun h=>by cases h.1),List.append_nil])
        clear hpp
        go_wp2
        go_roundw
        case rel=>exact ⟨p+1,by omega,by go_num,hbx2,by rw [HF.out];exact hown2,HVB.out,hNl2,HNC.out⟩
        case measure=>simp [intOf];omega
       ·have HF:Hid (L ++ linksTo ds ns k a (p+1)=LL ++ [⟨a.number,p,!pb⟩]):=hide (by rw [HL.out,HLA.out,if_pos ⟨rfl,hpp⟩])
        have hbs:=hbx2.size
        clear hpp
        go_wp2_with (at_builtin;refine wpList_append_lies _ rfl _ _ _ rfl w.heap.size 111 i0 _ 3 24 Tryz.underlying100 hi0 hz0 hz1 hz2 rfl (by omega) _ LL.length (rtCells LL) rfl (hown2.alloc _) ⟨w2.heap.size,0,none⟩ 1 1 [.int .i64 (a.number:Int),.int .i64 (p:Int),.bool (!pb)] rfl rfl (World.news_of_block (cs:=#[.int .i64 (a.number:Int),.int .i64 (p:Int),.bool (!pb)]) (t:=111) (fr:=(0,0)) (heap_alloc_new w2 _)) (by simp [Value.oneCell']) (by omega) (by unfold maxLen;omega) (by omega) (by simp;omega) (w2.heap.size+1) (by simp) ?_;intro gg cap2 w3 hown3 hgrow hat hlt3)
        go_roundw
        case rel=>
         refine ⟨p+1,by omega,by go_num,?_,?_,?_,?_,?_⟩
         ·exact (hbx2.alloc hbx2.size _).grown hgrow (by simp;omega) (fun j hj=>ownBlock_ge hown2 j hj)
         ·rw [HF.out,rtCells_snoc,List.length_append]
          exact hown3
         ·intro g3 hg3
          have e3:g3=gg:=by simpa [Value.ownBlock] using hg3.symm
          subst e3
          rcases hat with hh | hh
          ·exact HVB.out _ hh
          ·omega
         ·have:=hgrow.size;simp at this;omega
         ·rw [hgrow.block N (by simp;omega) (fun e=>HVB.out N e.symm rfl),Below.heap_alloc _ _ _ hNl2]
          exact HNC.out
        case measure=>simp [intOf];omega
     ·have ep:p=4:=by omega
      subst ep
      have HOWN:=hide hown
      have hL4:=linksTo_len ds ns k a 4
      clear hown hvb hNc
      go_wp2
      go_roundw
      case rel=>exact ⟨k+1,L ++ linksTo ds ns k a 4,by omega,by go_num,hbx,by simp;omega,by rw [List.append_assoc];exact HF.out,HOWN.out⟩
      case measure=>simp [intOf];omega
  ·have HF:Hid (linksF ds ns=L):=hide (by rw [← hrec,List.drop_of_length_le (by omega)];simp [linksFrom])
   have HOWN:=hide hown
   clear hrec hown
   go_wp2
   go_ret
   exact ⟨_,rfl,by rw [HF.out];exact HOWN.out,hbel⟩
theorem own_same {w w':World}{B e size n:Nat}{v:Value}{xs:List Value} (h:w.ownsRow B e size v n xs) (hb:∀ g,v.ownBlock=some g→w'.heap[g]? = w.heap[g]?):w'.ownsRow B e size v n xs:=by
 refine ⟨h.1,?_⟩
 rcases h.2 with h0 | ⟨g,cap,cur,hv,h1,h2,h3⟩
 ·exact .inl h0
 ·exact .inr ⟨g,cap,cur,hv,h1,(hb g (by rw [hv];rfl)).trans h2,h3⟩
theorem rtAt_cells {w:World}{B g cap:Nat}{l:List Rt} (h:w.ownsRow B 111 3 (.slice (some ⟨g,0,none⟩) l.length cap) l.length (rtCells l)) {i:Nat} (hi:i<l.length) (r:Rt) (hr:r=l[i]'hi) :
  w.cell? ⟨g,i * 3,none⟩=some (.int .i64 (r.src:Int))∧w.cell? ⟨g,i * 3+1,none⟩=some (.int .i64 (r.dst:Int))∧w.cell? ⟨g,i * 3+2,none⟩=some (.bool r.late):=by
 have hj:∀ j,j<3→w.cell? ⟨g,i * 3+j,none⟩=r.cells[j]?:=fun j hj=>by
  rw [h.cellAt (i * 3+j) (by omega),hr]
  exact flat_get Rt.cells 3 rt_len l i j hi hj
 exact ⟨hj 0 (by omega),hj 1 (by omega),hj 2 (by omega)⟩
set_option maxHeartbeats 2000000 in
set_option maxRecDepth 100000 in
theorem loop_any (w:World) (q:Nat) (ds:List Dc) (ns:List Nd) (vd vn:Value) (h:ProgAt w q ds ns vd vn) (hwf:ProgWf ds ns) (hL:∀ r∈linksF ds ns,r.src<(eqsF ds).length∧r.dst<4) (hll:(linksF ds ns).length≤6100) :
  Calls Tryz.prog 64 #[.pointer (some ⟨q,0,none⟩)] w fun e w'=>e = .returned (optVal (loopF ds ns))∧Below w.heap.size w w':=by
 have hdl:=hwf.dl
 have HP:=hide h
 have HWF:=hide hwf
 have HL:=hide hL
 have hel:(eqsF ds).length≤1501:=Nat.le_trans (List.length_filter_le _ _) hdl
 have HEP:Hid (∀ d∈eqsF ds,d.place<4):=hide (fun d hd=>hwf.place d (List.mem_filter.1 hd).1)
 have HLF:Hid (loopF ds ns=firstAt (warsh (waitsM (eqsF ds) (linksF ds ns) noM) 4) (eqsF ds)):=hide rfl
 clear h hwf hL
 go_enter Tryz.func64,Tryz.ntmps64
 go_wp2_with fail
 refine (equations_any w q ds ns vd vn HP.out hdl).mono ?_
 rintro e w1 ⟨ve,rfl,he1,hb1⟩
 go_wp2_with fail
 refine (square_any w1 4 (by omega)).mono ?_
 rintro e w2 ⟨rfl,hm2,hb2,hs2⟩
 have hb02:Below w.heap.size w w2:=hb1.trans (hb2.mono hb1.size)
 go_wp2_with fail
 refine (linksOf_any w2 q ds ns vd vn (HP.out.below hb02) HWF.out).mono ?_
 rintro e w3 ⟨vl,rfl,hl3,hb3⟩
 have hb03:Below w.heap.size w w3:=hb02.trans (hb3.mono hb02.size)
 have hm3:Mat w3 w1.heap.size 4 (fun i=>w1.heap.size+1+i) noM:=hm2.keep (hb3.block _ (by omega)) (fun i hi=>hb3.block _ (by omega))
 have he3:w3.ownsRow w.heap.size 91 7 ve (eqsF ds).length (dcCells (eqsF ds)):=own_same he1 (fun g hg=>(hb3.block g (by have:=(he1.lt g hg).2;have:=hb2.size;omega)).trans (hb2.block g (he1.lt g hg).2))
 have hbe:∀ g,ve.ownBlock=some g→g<w1.heap.size:=fun g hg=>(he1.lt g hg).2
 have hbl:∀ g,vl.ownBlock=some g→w2.heap.size≤g∧g<w3.heap.size:=fun g hg=>hl3.lt g hg
 have hs3:=hb3.size
 have hw1:=hb1.size
 obtain ⟨ae,ce,rfl,hshe⟩:=own_shape he3
 obtain ⟨al,cl,rfl,hshl⟩:=own_shape hl3
 generalize w1.heap.size=G at *
 generalize w2.heap.size=G2 at *
 have HM3:=hide hm3
 have HE3:=hide he3
 have HL3:=hide hl3
 have HSE:=hide hshe
 have HSL:=hide hshl
 have HBE:=hide hbe
 have HBL:=hide hbl
 clear he1 hb1 hm2 hb2 hb02 hl3 hb3 hm3 he3 hshe hshl hbe hbl
 generalize eqsF ds=es at *
 generalize linksF ds ns=ls at *
 go_wp2
 go_loopw [17] (fun i wr=>∃ (k:Nat) (M:Mx),k≤ls.length∧i = .int .i64 k∧Below w.heap.size w wr∧Fr (fun j=>(j<G∨G2≤j)∧j<w3.heap.size) w3 wr∧Mat wr G 4 (fun i=>G+1+i) M∧waitsM es (ls.drop k) M=waitsM es ls noM) (fun i _=>ls.length - (intOf i).toNat)
 case atStart=>exact ⟨0,noM,Nat.zero_le _,rfl,hb03,Fr.refl _ _,HM3.out,rfl⟩
 case round=>
  clear hb03 HM3
  obtain ⟨k,M,hk,rfl,hbel,hfr,hmat,hrec⟩:=hrel
  by_cases hlt:k<ls.length
  ·obtain ⟨gl,rfl,_,hgl⟩:=HSL.out (by omega)
   have hol:=own_same HL3.out (fun g hg=>hfr.block g (by have:=HBL.out g hg;omega))
   obtain ⟨r,hr⟩:∃ r,r=ls[k]'hlt:=⟨_,rfl⟩
   obtain ⟨x0,x1,x2⟩:=rtAt_cells hol hlt r hr
   rw [drop_at ls k hlt,← hr] at hrec
   obtain ⟨hr1,hr2⟩:=HL.out r (by rw [hr];exact List.getElem_mem hlt)
   have j1:(0:Int)≤(k:Int):=by omega
   have j2:(k:Int)<(ls.length:Int):=by omega
   simp only [waitsM] at hrec
   have HREC:=hide hrec
   have HMAT:=hide hmat
   have HFR:=hide hfr
   have hsw:=hfr.size
   clear hr hrec hmat hol hfr
   by_cases hlate:r.late=true
   ·have HF:Hid (waitsM es (ls.drop (k+1)) M=waitsM es ls noM):=hide (by rw [← HREC.out,if_pos hlate])
    go_wp2
    go_roundw
    case rel=>exact ⟨k+1,M,by omega,by go_num,hbel.alloc hbel.size _,HFR.out.trans (Fr.of_below ((Below.refl _ _).alloc (Nat.le_refl _) _) (fun j hj=>by omega)),HMAT.out.alloc _,HF.out⟩
    case measure=>simp [intOf];omega
   ·have hlate':r.late=false:=by simpa using hlate
    obtain ⟨ge,rfl,_,hge⟩:=HSE.out (by omega)
    obtain ⟨d,hd⟩:∃ d,d=es[r.src]'hr1:=⟨_,rfl⟩
    have hoe:=own_zero (own_same HE3.out (fun g hg=>HFR.out.block g (by have:=HBE.out g hg;omega)))
    have y4:=dcAt_cells hoe hr1 4 (by omega)
    rw [← hd] at y4
    simp [Dc.cells] at y4
    have hdp:d.place<4:=HEP.out d (by rw [hd];exact List.getElem_mem hr1)
    have HF:Hid (waitsM es (ls.drop (k+1)) (upd M r.dst d.place true)=waitsM es ls noM):=hide (by rw [← HREC.out,if_neg hlate];simp [hr1,hd])
    have lge:ge<wr.heap.size:=by omega
    have y4':∀ o,(wr.alloc o).cell? ⟨ge,r.src * 7+4,none⟩=some (.int .i64 (d.place:Int)):=fun o=>(World.cell?_alloc_past _ _ _ lge).trans y4
    have o1:∀ o,(wr.alloc o).cell? ⟨G,r.dst,none⟩=some (.slice (some ⟨G+1+r.dst,0,none⟩) 4 4):=fun o=>(HMAT.out.alloc o).outer _ hr2
    have o2:∀ o,(wr.alloc o).cell? ⟨G+1+r.dst,d.place,none⟩=some (.bool (M r.dst d.place)):=fun o=>(HMAT.out.alloc o).cell hr2 hdp
    have o3:∀ o,(wr.alloc o).frozen? ⟨G+1+r.dst,d.place,none⟩=false:=fun o=>(HMAT.out.alloc o).froz hr2 _
    have i1:(0:Int)≤(r.src:Int):=by omega
    have i2:(r.src:Int)<(es.length:Int):=by omega
    have i3:(0:Int)≤(r.dst:Int):=by omega
    have i4:(r.dst:Int)<4:=by omega
    have i5:(0:Int)≤(d.place:Int):=by omega
    have i6:(d.place:Int)<4:=by omega
    clear hlate hoe y4 hd
    go_wp2
    go_roundw
    case rel=>
     refine ⟨k+1,upd M r.dst d.place true,by omega,by go_num,?_,?_,?_,HF.out⟩
     ·first | exact (hbel.alloc hbel.size _).setCell (by show w.heap.size≤G+1+r.dst;omega) _ | exact (hbel.setCell (by show w.heap.size≤G+1+r.dst;omega) _).alloc (by simp;exact hbel.size) _
     ·have hf1:=HFR.out.trans (Fr.of_below (X:=fun j=>(j<G∨G2≤j)∧j<w3.heap.size) ((Below.refl _ wr).alloc (Nat.le_refl _) (.cells #[.int .i64 (r.src:Int),.int .i64 (r.dst:Int),.bool false] 111)) (fun j hj=>by omega))
      have hf2:=HFR.out.setCell (n:=G+1+r.dst) (i:=d.place) (by omega) (.bool true)
      first | exact hf1.setCell (by omega) _ | exact hf2.trans (Fr.of_below ((Below.refl _ _).alloc (Nat.le_refl _) _) (fun j hj=>by simp;omega))
     ·first | exact (HMAT.out.alloc _).set hr2 _ _ | exact (HMAT.out.set hr2 _ _).alloc _
    case measure=>simp [intOf];omega
  ·have HF:Hid (waitsM es ls noM=M):=hide (by rw [← hrec,List.drop_of_length_le (by omega)];rfl)
   have HMAT:=hide hmat
   have HFR:=hide hfr
   clear hrec hmat hfr
   go_wp2_with fail
   refine (follow_any wr G 4 4 _ M HMAT.out (by omega)).mono ?_
   rintro e w4 ⟨rfl,hm4,hro4⟩
   have hb4:Below w.heap.size w w4:=hbel.trans (hro4.below (fun i _=>by omega))
   have hoe4:w4.ownsRow 0 91 7 (.slice ae es.length ce) es.length (dcCells es):=own_zero (own_same HE3.out (fun g hg=>(hro4.block g (fun i _=>by have:=HBE.out g hg;omega)).trans (HFR.out.block g (by have:=HBE.out g hg;omega))))
   have HC:Hid (loopF ds ns=firstAt (warsh M 4) es):=hide (by rw [HLF.out,HF.out])
   have HM4:=hide hm4
   have HO4:=hide hoe4
   have hlt4:G<w4.heap.size:=hm4.lt (by omega)
   have hge4:∀ ge,ae=some ⟨ge,0,none⟩→ge<w4.heap.size:=fun ge h=>by
    have h1:(Value.slice ae es.length ce).ownBlock=some ge:=by rw [h];rfl
    have:=(hoe4.lt ge h1).2
    exact this
   have HGE:=hide hge4
   clear hm4 hro4 hbel HMAT HFR hoe4 hge4
   generalize warsh M 4=MW at *
   go_wp2
   go_loopw [42] (fun i wx=>∃ j:Nat,j≤es.length∧i = .int .i64 j∧Below w.heap.size w wx∧Below w4.heap.size w4 wx∧firstAt MW (es.drop j)=firstAt MW es) (fun i _=>es.length - (intOf i).toNat)
   case atStart=>exact ⟨0,Nat.zero_le _,rfl,hb4,Below.refl _ _,rfl⟩
   case round=>
    clear hb4 hlt hk
    obtain ⟨k,hk,rfl,hbx,hbx4,hrb⟩:=hrel
    by_cases hlt:k<es.length
    ·obtain ⟨ge,rfl,_,_⟩:=HSE.out (by omega)
     rw [drop_at es k hlt] at hrb
     obtain ⟨a,ha⟩:∃ a,a=es[k]'hlt:=⟨_,rfl⟩
     rw [← ha] at hrb
     obtain ⟨x0,x1,x2,x3,x4,x5,x6⟩:=dc_later HO4.out hbx4 (HGE.out ge rfl) hlt a ha
     have hap:a.place<4:=HEP.out a (by rw [ha];exact List.getElem_mem hlt)
     have hmx:Mat wr G 4 (fun i=>G+1+i) MW:=HM4.out.keep (hbx4.block _ hlt4) (fun i hi=>hbx4.block _ ((HM4.out.rows i hi).lt))
     have j1:(0:Int)≤(k:Int):=by omega
     have j2:(k:Int)<(es.length:Int):=by omega
     have j3:(0:Int)≤(a.place:Int):=by omega
     have j4:(a.place:Int)<4:=by omega
     simp only [firstAt] at hrb
     have o1:∀ o,(wr.alloc o).cell? ⟨G,a.place,none⟩=some (.slice (some ⟨G+1+a.place,0,none⟩) 4 4):=fun o=>(hmx.alloc o).outer _ hap
     have o2:∀ o,(wr.alloc o).cell? ⟨G+1+a.place,a.place,none⟩=some (.bool (MW a.place a.place)):=fun o=>(hmx.alloc o).cell hap hap
     have HRB:=hide hrb
     have hb4s:=hbx4.size
     clear ha hrb hmx
     by_cases hs:MW a.place a.place=true
     ·have HF2:Hid (loopF ds ns=some a.pos):=hide (by rw [HC.out,← HRB.out,if_pos hs])
      go_wp2_with fail
      go_quiet (fail)
      go_wp2
      go_ret2
      exact ⟨opt_some HF2.out,below_drewN (hbx.alloc hbx.size _) _⟩
     ·have hs':MW a.place a.place=false:=by simpa using hs
      have HF2:Hid (firstAt MW (es.drop (k+1))=firstAt MW es):=hide (by rw [← HRB.out,if_neg hs])
      clear hs
      go_wp2_with fail
      go_quiet (fail)
      go_wp2
      go_roundw
      case rel=>exact ⟨k+1,by omega,by go_num,below_drewN (hbx.alloc hbx.size _) _,below_drewN (hbx4.alloc hb4s _) _,HF2.out⟩
      case measure=>simp [intOf];omega
    ·have HF2:Hid (loopF ds ns=none):=hide (by rw [HC.out,← hrb,List.drop_of_length_le (by omega)];rfl)
     clear hrb
     go_wp2
     go_ret2
     exact ⟨opt_none HF2.out,hbx⟩
set_option maxHeartbeats 1000000 in
set_option maxRecDepth 100000 in
theorem meaning_any (w:World) (q:Nat) (ds:List Dc) (ns:List Nd) (vd vn:Value) (h:ProgAt w q ds ns vd vn) (hg:Good ds ns) :
  Calls Tryz.prog 35 #[.pointer (some ⟨q,0,none⟩)] w fun e w'=>e = .returned (.tuple #[.int .i64 ((meaningF ds ns).1:Int),.int .i64 ((meaningF ds ns).2:Int)])∧Below w.heap.size w w':=by
 have HP:=hide h
 have HG:=hide hg
 clear h hg
 go_enter Tryz.func35,Tryz.ntmps35
 go_wp2_with fail
 refine (tooMany_any w q ds ns vd vn HP.out HG.out.wf.dl).mono ?_
 rintro e w1 ⟨rfl,hb1⟩
 cases h1:tooManyF ds with
 | some a=>
  have HF:Hid (meaningF ds ns=(3,a)):=hide (by unfold meaningF;rw [h1])
  simp only [optVal,Option.getD_some,Option.isSome_some]
  clear h1
  go_wp2_with fail
  go_ret2
  exact ⟨by rw [HF.out];rfl,hb1⟩
 | none=>
  simp only [optVal,Option.getD_none,Option.isSome_none]
  have H1:=hide h1
  clear h1
  go_wp2_with fail
  refine (badName_any w1 q ds ns vd vn (HP.out.below hb1) HG.out.wf).mono ?_
  rintro e w2 ⟨rfl,hb2⟩
  have hb02:Below w.heap.size w w2:=hb1.trans (hb2.mono hb1.size)
  clear hb1 hb2
  cases h2:badNameF ds ns 0 ds with
  | some a=>
   have HF:Hid (meaningF ds ns=(4,a)):=hide (by unfold meaningF;rw [H1.out];simp only;rw [h2])
   simp only [optVal,Option.getD_some,Option.isSome_some]
   clear h2
   go_wp2_with fail
   go_ret2
   exact ⟨by rw [HF.out];rfl,hb02⟩
  | none=>
   simp only [optVal,Option.getD_none,Option.isSome_none]
   have H2:=hide h2
   have HB:=hide (HG.out.names h2)
   clear h2
   go_wp2_with fail
   refine (badType_any w2 q ds ns vd vn (HP.out.below hb02) HG.out.wf HB.out).mono ?_
   rintro e w3 ⟨rfl,hb3⟩
   have hb03:Below w.heap.size w w3:=hb02.trans (hb3.mono hb02.size)
   clear hb02 hb3
   cases h3:badTypeF ds 0 ns (roots ds (List.replicate ns.length false)) with
   | some a=>
    have HF:Hid (meaningF ds ns=(5,a)):=hide (by unfold meaningF;rw [H1.out];simp only;rw [H2.out];simp only;rw [h3])
    simp only [optVal,Option.getD_some,Option.isSome_some]
    clear h3
    go_wp2_with fail
    go_ret2
    exact ⟨by rw [HF.out];rfl,hb03⟩
   | none=>
    simp only [optVal,Option.getD_none,Option.isSome_none]
    have H3:=hide h3
    clear h3
    go_wp2_with fail
    refine (cycle_any w3 q ds ns vd vn (HP.out.below hb03) HG.out.wf HB.out).mono ?_
    rintro e w4 ⟨rfl,hb4⟩
    have hb04:Below w.heap.size w w4:=hb03.trans (hb4.mono hb03.size)
    clear hb03 hb4
    cases h4:cycleF ds ns with
    | some a=>
     have HF:Hid (meaningF ds ns=(6,a)):=hide (by unfold meaningF;rw [H1.out];simp only;rw [H2.out];simp only;rw [H3.out];simp only;rw [h4])
     simp only [optVal,Option.getD_some,Option.isSome_some]
     clear h4
     go_wp2_with fail
     go_ret2
     exact ⟨by rw [HF.out];rfl,hb04⟩
    | none=>
     simp only [optVal,Option.getD_none,Option.isSome_none]
     have H4:=hide h4
     clear h4
     go_wp2_with fail
     refine (loop_any w4 q ds ns vd vn (HP.out.below hb04) HG.out.wf HG.out.links HG.out.many).mono ?_
     rintro e w5 ⟨rfl,hb5⟩
     have hb05:Below w.heap.size w w5:=hb04.trans (hb5.mono hb04.size)
     clear hb04 hb5
     cases h5:loopF ds ns with
     | some a=>
      have HF:Hid (meaningF ds ns=(7,a)):=hide (by unfold meaningF;rw [H1.out];simp only;rw [H2.out];simp only;rw [H3.out];simp only;rw [H4.out];simp only;rw [h5])
      simp only [optVal,Option.getD_some,Option.isSome_some]
      clear h5
      go_wp2_with fail
      go_ret2
      exact ⟨by rw [HF.out];rfl,hb05⟩
     | none=>
      have HF:Hid (meaningF ds ns=(0,0)):=hide (by unfold meaningF;rw [H1.out];simp only;rw [H2.out];simp only;rw [H3.out];simp only;rw [H4.out];simp only;rw [h5])
      simp only [optVal,Option.getD_none,Option.isSome_none]
      clear h5
      go_wp2_with fail
      go_ret2
      exact ⟨by rw [HF.out];rfl,hb05⟩
end Go.Proofs.YtecegaflhdgfaaaGreat
