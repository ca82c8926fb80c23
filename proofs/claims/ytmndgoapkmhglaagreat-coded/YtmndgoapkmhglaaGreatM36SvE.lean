import Derived.Test.YtmndgoapkmhglaaGreatM15JudJ
import Derived.Test.YtmndgoapkmhglaaGreatM22OrdE
import Derived.Test.YtmndgoapkmhglaaGreatM23WrC
import Derived.Test.YtmndgoapkmhglaaGreatM35SvC
namespace Go.Proofs.YtmndgoapkmhglaaGreat
open Go.RowKit
attribute [local go_sem ↓] Go.wp_at_zero Go.wp_at_succ
def dcBlk (d:Dc):Obj:=.cells #[.int .i64 (d.kind:Int),.int .i64 (d.number:Int),.string d.name,.int .i64 (d.pos:Int),.int .i64 (d.place:Int),.int .i64 (d.root:Int),.int .i64 (d.fin:Int)] 91
set_option maxHeartbeats 2000000 in
set_option maxRecDepth 100000 in
theorem fill_any (w0 w:World) (q:Nat) (ds:List Dc) (ns:List Nd) (vd vn vX vT:Value) (ins:List (List Int)) (NV:Nat→Nat→Int) (T:List Nat) (h:ProgAt w0 q ds ns vd vn) (hwf:ProgWf ds ns) (hX:LsAt w0 vX ins) (hT:RowAt w0 vT (T.map fun (t:Nat)=>(t:Int)))
  (hM:Meant ds ns ins NV) (hO:OrdOk ds (markAll ds ns 0 ds noM) T) (bq g gb k:Nat) (X0 Y:Nat→Int) (hB:Beat w0 w bq g gb ns.length k X0 Y) (hY:k≠0→∀ c,c<ns.length→Y c=NV (k - 1) c) :
  Calls Tryz.prog 38 #[.pointer (some ⟨q,0,none⟩),vX,vT,.pointer (some ⟨bq,0,none⟩)] w fun e w'=>e = .returned (.tuple #[])∧∃ X,Beat w0 w' bq g gb ns.length k X Y∧∀ i,i<ns.length→X i=NV k i:=by
 have hnl:=hwf.nl
 have HV:=hide (fun W X hW i hi=>value_any w0 W q ds ns vd vn vX ins h hwf hX hM.decl (fun d hd hk=>by obtain ⟨a,ha,rfl⟩:=List.getElem_of_mem hd;exact (hM.root a _ (List.getElem?_eq_getElem ha) hk).1) bq g gb k X Y hW i hi)
 have hpb:∀ n∈ns,n.b<ns.length:=fun n hn=>(hwf.parts n hn).2.1
 have hTr:=hT
 obtain ⟨AT,CT,rfl,hTm,hTc⟩:=hT
 rw [List.length_map] at *
 obtain ⟨av,cap,rfl,hsh⟩:=own_shape h.decls
 obtain ⟨an,capn,rfl,hshn⟩:=own_shape h.nodes
 have HTC:=hide hTc
 have HSH:=hide hsh
 have HSHN:=hide hshn
 have HP:=hide h
 have HM:=hide hM
 have HO:=hide hO
 have HY:=hide hY
 have HB:=hide hB
 have HPB:=hide hpb
 clear h hsh hwf hshn hX hTc hM hO hY hB hTr hpb
 go_enter Tryz.func38,Tryz.ntmps38
 go_wp2
 go_loopw [15] (fun vj wr=>∃ (j:Nat) (X:Nat→Int),j≤T.length∧vj = .int .i64 j∧Beat w0 wr bq g gb ns.length k X Y∧DoneT ds ns (NV k) T j X) (fun vj _=>T.length - (intOf vj).toNat)
 case atStart=>exact ⟨0,X0,Nat.zero_le _,rfl,HB.out,⟨fun t ht=>by simp at ht⟩⟩
 case round=>
  clear HB
  obtain ⟨j,X,hj,rfl,hB,hD⟩:=hrel
  by_cases hjl:j<T.length
  ·obtain ⟨bT,oT,rfl,hbT,hcT⟩:=HTC.out (by first | omega | (rw [List.length_map];omega))
   obtain ⟨t,ht⟩:∃ t,t=T[j]'hjl:=⟨_,rfl⟩
   have htj:T[j]? = some t:=by rw [List.getElem?_eq_getElem hjl,ht]
   have ct:wr.cell? ⟨bT,oT+j,none⟩=some (.int .i64 (t:Int)):=by
    have:=hcT j (by first | omega | (rw [List.length_map];omega))
    rw [List.getElem_map] at this
    rw [ht]
    exact (hB.bel.cell (p:=⟨bT,oT+j,none⟩) hbT).trans this
   obtain ⟨d,hd,hk⟩:=HO.out.eqn t (List.mem_of_getElem? htj)
   obtain ⟨htl,htd⟩:=List.getElem?_eq_some_iff.1 hd
   obtain ⟨ga,rfl,_,hga⟩:=HSH.out (by omega)
   obtain ⟨x0,x1,x2,x3,x4,x5,x6⟩:=dc_later HP.out.decls hB.bel hga htl d htd.symm
   obtain ⟨s1,s2⟩:=HM.out.segs t d hd hk
   have p0:=(HP.out.below hB.bel).c0
   have j1:(0:Int)≤(j:Int):=by omega
   have j2:(j:Int)<(T.length:Int):=by omega
   have t1:(0:Int)≤(t:Int):=by omega
   have t2:(t:Int)<(ds.length:Int):=by omega
   have HB:=hide hB
   have HD:=hide hD
   have HHD:=hide hd
   have HTJ:=hide htj
   obtain ⟨dq,hdq0⟩:∃ dq,dq=wr.heap.size:=⟨_,rfl⟩
   have hdq:g≠dq:=by have:=World.rowIs.lt hB.now;omega
   have HDQ:=hide hdq0
   clear hB hD ht htd hd htj hcT hdq0
   go_wp2
   go_loopw [11] (fun vi wx=>∃ (m:Nat) (X2:Nat→Int),d.root≤m∧m≤d.fin∧vi = .int .i64 ((m:Int) - 1)∧Beat w0 wx bq g gb ns.length k X2 Y∧DoneT ds ns (NV k) T j X2∧(∀ c,m≤c→c<d.fin→dlAt ns c=false→X2 c=NV k c)∧wx.heap[dq]? = some (dcBlk d)) (fun vi _=>(intOf vi+1).toNat)
   case atStart=>exact ⟨d.fin,X,by omega,Nat.le_refl _,by go_num,HB.out.alloc _,HD.out,fun c h1 h2=>by omega,by rw [HDQ.out];exact heap_alloc_new _ _⟩
   case round=>
    clear HB x0 x1 x2 x3 x4 x5 x6 p0 ct
    obtain ⟨m,X2,hm1,hm2,rfl,hB,hD,hI,hq⟩:=hrel
    have z5:wr.cell? ⟨dq,5,none⟩=some (.int .i64 (d.root:Int)):=(cell_of_row wr _ 5 _ _ _ hq).trans rfl
    rw [HDQ.out] at z5
    by_cases hmr:d.root<m
    ·obtain ⟨i,rfl⟩:∃ i,m=i+1:=⟨m - 1,by omega⟩
     have hil:i<ns.length:=by omega
     obtain ⟨gn,rfl,_,hgn⟩:=HSHN.out (by omega)
     obtain ⟨n,hn⟩:∃ n,n=ns[i]'hil:=⟨_,rfl⟩
     have p1:=(HP.out.below hB.bel).c1
     have y9:=(nd_later HP.out.nodes hB.bel hgn hil n hn).2.2.2.2.2.2.2.2.2.1
     have i1:(0:Int)≤(i:Int):=by omega
     have i2:(i:Int)<(ns.length:Int):=by omega
     have ei:((i+1:Nat):Int) - 1=(i:Int):=by omega
     have i3:(i:Int) ≥ (d.root:Int):=by omega
     rw [ei]
     have hdl:dlAt ns i=n.delayed:=by unfold dlAt;rw [List.getElem?_eq_getElem hil,← hn];rfl
     have HB:=hide hB
     have HD:=hide hD
     have HI:=hide hI
     have HQ:=hide hq
     have HDL:=hide hdl
     have HN:=hide hn
     clear hB hD hI hq hdl hn ei
     by_cases hde:n.delayed=true
     ·go_wp2
      go_roundw
      case rel=>
       refine ⟨i,X2,by omega,by omega,by go_num,HB.out,HD.out,fun c h1 h2 h3=>?_,HQ.out⟩
       rcases Nat.eq_or_lt_of_le h1 with rfl | h'
       ·rw [HDL.out,hde] at h3;cases h3
       ·exact HI.out c h' h2 h3
      case measure=>simp [intOf]
     ·have hde':n.delayed=false:=by simpa using hde
      have d1:=HB.out.c1
      have xi:=HB.out.x hil
      have fi:=HB.out.froz i
      clear hde
      have hgb:=HB.out.ne
      have gl:g<wr.heap.size:=World.rowIs.lt HB.out.now
      have bl:bq<wr.heap.size:=(Array.getElem?_eq_some_iff.1 HB.out.blk).1
      go_wp2_with fail
      go_region_held3 (fun w'=>w'.cell? ⟨bq,1,none⟩=some (.slice (some ⟨g,0,none⟩) ns.length ns.length)) (first | go_keep | exact (World.cell?_setCell_other _ _ _ _ (by intro e;exact hgb (congrArg Addr.block e))).trans s1 | exact (World.cell?_setCell_other _ _ _ _ (by intro e;exact hgb (congrArg Addr.block e).symm)).trans s1) ((go_at_call 67;refine (HV.out _ X2 (by first | exact HB.out.drew | exact HB.out) i hil).mono ?_;rintro e w3 ⟨rfl,hb3⟩;have s1:=(hb3.cell (p:=⟨bq,1,none⟩) (by simpa using bl)).trans d1;have s2:=(hb3.cell (p:=⟨g,i,none⟩) (by simpa using gl)).trans xi;have s3:=(hb3.frozen (p:=⟨g,i,none⟩) (by simpa using gl)).trans fi))
      rename_i hHeld
      clear hHeld
      have hv:valF ds ins ns[i] k X2 Y=NV k i:=turn_val HM.out HO.out HD.out HY.out HPB.out HTJ.out HHD.out hil (by omega) (by omega) (by rw [← HN.out];exact hde') (fun c h1 h2 h3=>HI.out c h1 h2 h3)
      rw [hv]
      have HB3:=hide ((HB.out.drew).below hb3)
      have HBF:=hide hb3
      clear hv hb3 s1 s2 s3
      go_wp2
      go_roundw
      case rel=>
       refine ⟨i,fun c=>if c=i then NV k i else X2 c,by omega,by omega,by go_num,by first | exact HB3.out.set i _ | exact (HB3.out.set i _).drew,HD.out.set i,fun c h1 h2 h3=>?_,?_⟩
       ·by_cases e:c=i
        ·simp [e]
        ·simp only [if_neg e];exact HI.out c (by omega) h2 h3
       ·have h6:dq<wr.heap.size:=(Array.getElem?_eq_some_iff.1 HQ.out).1
        have h7:w3.heap[dq]? = wr.heap[dq]?:=HBF.out.block dq (by simpa using h6)
        exact (heap_setCell_other w3 ⟨g,i,none⟩ dq _ (Ne.symm hdq)).trans (h7.trans HQ.out)
      case measure=>simp [intOf]
    ·have em:m=d.root:=by omega
     subst em
     have z6:¬ ((d.root:Int) - 1 ≥ (d.root:Int)):=by omega
     have HB:=hide hB
     have HD:=hide hD
     have HI:=hide hI
     clear hB hD hI hq
     go_wp2
     go_roundw
     case rel=>
      refine ⟨j+1,X2,by omega,by go_num,HB.out,⟨fun u hu e he c h1 h2 h3=>?_⟩⟩
      rw [List.take_add_one,HTJ.out] at hu
      rcases List.mem_append.1 hu with hu | hu
      ·exact HD.out.all u hu e he c h1 h2 h3
      ·have eu:u=t:=by simpa using hu
       subst eu
       rw [HHD.out] at he
       cases he
       exact HI.out c h1 h2 h3
     case measure=>simp [intOf];omega
  ·have ej:j=T.length:=by omega
   subst ej
   have hdone:∀ c,c<ns.length→dlAt ns c=false→X c=NV k c:=fun c hc hl=>by
    obtain ⟨a,d,hd,hk,h1,h2⟩:=HM.out.cover c hc
    exact hD.all a (by rw [List.take_length];exact HO.out.all a d hd hk) d hd c h1 h2 hl
   have p1:=(HP.out.below hB.bel).c1
   have HB:=hide hB
   have HDONE:=hide hdone
   clear hB hD hdone
   go_wp2
   go_loopw [12] (fun vi wx=>∃ (m:Nat) (X2:Nat→Int),m≤ns.length∧vi = .int .i64 ((m:Int) - 1)∧Beat w0 wx bq g gb ns.length k X2 Y∧(∀ c,c<ns.length→dlAt ns c=false→X2 c=NV k c)∧(∀ c,m≤c→c<ns.length→X2 c=NV k c)) (fun vi _=>(intOf vi+1).toNat)
   case atStart=>exact ⟨ns.length,X,Nat.le_refl _,by go_num,HB.out,HDONE.out,fun c h1 h2=>by omega⟩
   case round=>
    clear HB HDONE p1
    obtain ⟨m,X2,hm,rfl,hB,hp,hq⟩:=hrel
    by_cases hm0:0<m
    ·obtain ⟨i,rfl⟩:∃ i,m=i+1:=⟨m - 1,by omega⟩
     have hil:i<ns.length:=by omega
     obtain ⟨gn,rfl,_,hgn⟩:=HSHN.out (by omega)
     obtain ⟨n,hn⟩:∃ n,n=ns[i]'hil:=⟨_,rfl⟩
     have p1:=(HP.out.below hB.bel).c1
     have y9:=(nd_later HP.out.nodes hB.bel hgn hil n hn).2.2.2.2.2.2.2.2.2.1
     have i1:(0:Int)≤(i:Int):=by omega
     have i2:(i:Int)<(ns.length:Int):=by omega
     have ei:((i+1:Nat):Int) - 1=(i:Int):=by omega
     have i3:(i:Int) ≥ 0:=by omega
     rw [ei]
     have hdl:dlAt ns i=n.delayed:=by unfold dlAt;rw [List.getElem?_eq_getElem hil,← hn];rfl
     have HB:=hide hB
     have HPP:=hide hp
     have HQQ:=hide hq
     have HDL:=hide hdl
     have HN:=hide hn
     clear hB hp hq hdl hn ei
     by_cases hde:n.delayed=true
     ·have d1:=HB.out.c1
      have xi:=HB.out.x hil
      have fi:=HB.out.froz i
      have hgb:=HB.out.ne
      have gl:g<wr.heap.size:=World.rowIs.lt HB.out.now
      have bl:bq<wr.heap.size:=(Array.getElem?_eq_some_iff.1 HB.out.blk).1
      go_wp2_with fail
      go_region_held3 (fun w'=>w'.cell? ⟨bq,1,none⟩=some (.slice (some ⟨g,0,none⟩) ns.length ns.length)) (first | go_keep | exact (World.cell?_setCell_other _ _ _ _ (by intro e;exact hgb (congrArg Addr.block e))).trans s1 | exact (World.cell?_setCell_other _ _ _ _ (by intro e;exact hgb (congrArg Addr.block e).symm)).trans s1) ((go_at_call 67;refine (HV.out _ X2 (by first | exact HB.out.drew | exact HB.out) i hil).mono ?_;rintro e w3 ⟨rfl,hb3⟩;have s1:=(hb3.cell (p:=⟨bq,1,none⟩) (by simpa using bl)).trans d1;have s2:=(hb3.cell (p:=⟨g,i,none⟩) (by simpa using gl)).trans xi;have s3:=(hb3.frozen (p:=⟨g,i,none⟩) (by simpa using gl)).trans fi))
      rename_i hHeld
      clear hHeld
      have hv:valF ds ins ns[i] k X2 Y=NV k i:=late_val HM.out HY.out HPB.out hil HPP.out (fun c h1 h2=>HQQ.out c h1 h2)
      rw [hv]
      have HB3:=hide ((HB.out.drew).below hb3)
      clear hv hb3 s1 s2 s3
      go_wp2
      go_roundw
      case rel=>
       refine ⟨i,fun c=>if c=i then NV k i else X2 c,by omega,by go_num,by first | exact HB3.out.set i _ | exact (HB3.out.set i _).drew,fun c h1 h2=>?_,fun c h1 h2=>?_⟩
       ·by_cases e:c=i
        ·simp [e]
        ·simp only [if_neg e];exact HPP.out c h1 h2
       ·by_cases e:c=i
        ·simp [e]
        ·simp only [if_neg e];exact HQQ.out c (by omega) h2
      case measure=>simp [intOf]
     ·have hde':n.delayed=false:=by simpa using hde
      have HDE:=hide hde'
      clear hde
      go_wp2
      go_roundw
      case rel=>
       refine ⟨i,X2,by omega,by go_num,HB.out,HPP.out,fun c h1 h2=>?_⟩
       rcases Nat.eq_or_lt_of_le h1 with rfl | h'
       ·exact HPP.out i hil (by rw [HDL.out];exact HDE.out)
       ·exact HQQ.out c h' h2
      case measure=>simp [intOf]
    ·have em:m=0:=by omega
     subst em
     have z6:¬ (((0:Nat):Int) - 1 ≥ 0):=by omega
     have HB:=hide hB
     have HQQ:=hide hq
     clear hB hp hq
     go_wp2
     go_end0
     exact ⟨rfl,X2,HB.out,fun i hi=>HQQ.out i (Nat.zero_le _) hi⟩
theorem tCells_i (T:List Nat):tCells T=iCells (T.map fun (t:Nat)=>(t:Int)):=by simp [tCells,iCells]
structure SS (w wr:World) (ds:List Dc) (vE vT:Value) (T:List Nat) (rg n:Nat) (R:Nat→Nat) (F:Nat→Nat→Int):Prop where
 bel:Below w.heap.size w wr
 eqs:wr.ownsRow w.heap.size 91 7 vE (eqsF ds).length (dcCells (eqsF ds))
 ord:wr.ownsRow w.heap.size 3 1 vT T.length (tCells T)
 mat:MatI wr rg (eqsF ds).length n R F
 rgl:rg<wr.heap.size
 ge:w.heap.size≤rg∧∀ i,i<(eqsF ds).length→w.heap.size≤R i
 apart:∀ i,i<(eqsF ds).length→vE.ownBlock≠some (R i)∧vT.ownBlock≠some (R i)
theorem SS.below {w wr w':World}{ds:List Dc}{vE vT:Value}{T:List Nat}{rg n:Nat}{R:Nat→Nat}{F:Nat→Nat→Int} (h:SS w wr ds vE vT T rg n R F) (hb:Below wr.heap.size wr w'):SS w w' ds vE vT T rg n R F:=
 ⟨h.bel.trans (hb.mono h.bel.size),own_eqb h.eqs (fun b e=>hb.block b (h.eqs.lt b e).2),own_eqb h.ord (fun b e=>hb.block b (h.ord.lt b e).2),h.mat.below hb,Nat.lt_of_lt_of_le h.rgl hb.size,h.ge,h.apart⟩
theorem SS.alloc {w wr:World}{ds:List Dc}{vE vT:Value}{T:List Nat}{rg n:Nat}{R:Nat→Nat}{F:Nat→Nat→Int} (h:SS w wr ds vE vT T rg n R F) (o:Obj):SS w (wr.alloc o) ds vE vT T rg n R F:=h.below ((Below.refl _ _).alloc (Nat.le_refl _) o)
theorem SS.drew {w wr:World}{ds:List Dc}{vE vT:Value}{T:List Nat}{rg n:Nat}{R:Nat→Nat}{F:Nat→Nat→Int} (h:SS w wr ds vE vT T rg n R F):SS w wr.drew ds vE vT T rg n R F:=h.below ((Below.refl _ _).drew)
theorem SS.set {w wr:World}{ds:List Dc}{vE vT:Value}{T:List Nat}{rg n:Nat}{R:Nat→Nat}{F:Nat→Nat→Int} (h:SS w wr ds vE vT T rg n R F) {i:Nat} (hi:i<(eqsF ds).length) (k:Nat) (v:Int):SS w (wr.setCell ⟨R i,k,none⟩ (.int .i64 v)) ds vE vT T rg n R (fun a b=>if a=i∧b=k then v else F a b):=
 ⟨h.bel.setCell (h.ge.2 i hi) _,own_eqb h.eqs (fun b e=>heap_setCell_other wr ⟨R i,k,none⟩ b _ (fun e2=>(h.apart i hi).1 (by rw [e,e2]))),own_eqb h.ord (fun b e=>heap_setCell_other wr ⟨R i,k,none⟩ b _ (fun e2=>(h.apart i hi).2 (by rw [e,e2]))),h.mat.set hi k v,by simpa using h.rgl,h.ge,h.apart⟩
set_option maxHeartbeats 4000000 in
set_option maxRecDepth 100000 in
theorem sof_any (w:World) (q:Nat) (ds:List Dc) (ns:List Nd) (vd vn vX:Value) (ins:List (List Int)) (NV:Nat→Nat→Int) (h:ProgAt w q ds ns vd vn) (hwf:ProgWf ds ns) (hX:LsAt w vX ins) (hM:Meant ds ns ins NV) (hn16:ds.length≤16) (rank:Nat→Nat) (hR:Ranked ds (markAll ds ns 0 ds noM) rank)
  (n:Nat) (hn:n≤200) (S:Nat→Nat→Int) (hS:∀ (j:Nat) (d:Dc) (k:Nat),(eqsF ds)[j]? = some d→NV k d.root=S j k) :
  Calls Tryz.prog 22 #[.pointer (some ⟨q,0,none⟩),vX,.int .i64 (n:Int)] w fun e w'=>∃ v,e = .returned v∧Outs w.heap.size w' v (eqsF ds).length n S∧Below w.heap.size w w':=by
 have hel:(eqsF ds).length≤16:=Nat.le_trans (List.length_filter_le _ _) hn16
 have hnl:=hwf.nl
 have hm1:=run_make_row' (P:=Tryz.prog) 22 34 (.slice none 0 0) 24 Tryz.underlying22 Tryz.infoIntsE rfl .i64 .i64 (eqsF ds).length (by omega) (by omega)
 have hm2:=run_make_row' (P:=Tryz.prog) 34 3 (.int .i64 0) 8 Tryz.underlying34 Tryz.infoIntO rfl .i64 .i64 n (by omega) (by omega)
 have hm3:=run_make_row' (P:=Tryz.prog) 34 3 (.int .i64 0) 8 Tryz.underlying34 Tryz.infoIntO rfl .i64 .i64 ns.length (by omega) (by omega)
 have HE:=hide (equations_any w q ds ns vd vn h (by omega))
 have HOR:=hide (fun W hW=>order_any W q ds ns vd vn hW hwf (fun m hm hk=>(hM.decl m hm hk).1) hn16 rank hR)
 have HP:=hide h
 have HX:=hide hX
 have HWF:=hide hwf
 have HM:=hide hM
 have HS:=hide hS
 clear h hX hM hS hR hwf
 go_enter Tryz.func22,Tryz.ntmps22
 go_wp2_with fail
 refine HE.out.mono ?_
 rintro e w1 ⟨vE,rfl,hE1,hb1⟩
 obtain ⟨aE,cE,rfl,hshE⟩:=own_shape hE1
 have HR0:=hide (World.rowIs_made w1 (.slice none 0 0) (eqsF ds).length 34)
 have HE1:=hide hE1
 have HB1:=hide hb1
 clear hE1 hb1 HE
 go_wp2
 go_loopw [23] (fun vi wr=>∃ i:Nat,i≤(eqsF ds).length∧vi = .int .i64 i∧wr.heap.size=w1.heap.size+1+i∧Below w1.heap.size w1 wr∧
   wr.rowIs w1.heap.size 34 (eqsF ds).length (fun j=>if j<i then .slice (some ⟨w1.heap.size+1+j,0,none⟩) n n else .slice none 0 0)∧(∀ j,j<i→wr.rowIs (w1.heap.size+1+j) 3 n (fun _=>.int .i64 0))) (fun vi _=>(eqsF ds).length - (intOf vi).toNat)
 case atStart=>exact ⟨0,Nat.zero_le _,rfl,by simp,(Below.refl _ _).alloc (Nat.le_refl _) _,HR0.out.congr (fun j _=>by simp),fun j hj=>by omega⟩
 case round=>
  clear HR0
  obtain ⟨i,hi,rfl,hsz,hbel,hout,hrows⟩:=hrel
  by_cases hlt:i<(eqsF ds).length
  ·have j1:(0:Int)≤(i:Int):=by omega
   have j2:(i:Int)<((eqsF ds).length:Int):=by omega
   have lg:w1.heap.size<wr.heap.size:=by omega
   have x0:∀ o,(wr.alloc o).cell? ⟨w1.heap.size,i,none⟩=some (.slice none 0 0):=fun o=>(World.cell?_alloc_past _ _ _ lg).trans ((hout.cell hlt).trans (by simp))
   have f0:∀ o,(wr.alloc o).frozen? ⟨w1.heap.size,i,none⟩=false:=fun o=>(World.frozen?_alloc_past _ _ _ lg).trans (hout.frozen i)
   have HSZ:=hide hsz
   have HOUT:=hide hout
   have HROWS:=hide hrows
   clear hsz hout hrows
   go_wp2
   go_roundw
   case rel=>
    have e1:wr.heap.size=w1.heap.size+1+i:=HSZ.out
    refine ⟨i+1,by omega,by go_num,by simp;omega,?_,?_,?_⟩
    ·first | exact (hbel.alloc (by omega) _).setCell (Nat.le_refl _) _ | exact (hbel.setCell (Nat.le_refl _) _).alloc (by simp;omega) _
    ·have h1:=(HOUT.out.set i (.slice (some ⟨wr.heap.size,0,none⟩) n n)).alloc (.cells (madeCells #[.int .i64 0] n) 3)
     refine World.rowIs.congr ?_ (f:=(fun j=>if j=i then .slice (some ⟨wr.heap.size,0,none⟩) n n else if j<i then .slice (some ⟨w1.heap.size+1+j,0,none⟩) n n else .slice none 0 0)) (fun j hj=>?_)
     ·exact h1
     ·by_cases e:j=i
      ·subst e;rw [if_pos rfl,if_pos (by omega),e1]
      ·rw [if_neg e]
       by_cases h2:j<i
       ·rw [if_pos h2,if_pos (by omega)]
       ·rw [if_neg h2,if_neg (by omega)]
    ·intro j hj
     by_cases e:j=i
     ·subst e
      have h2:=World.rowIs_made (wr.setCell ⟨w1.heap.size,j,none⟩ (.slice (some ⟨wr.heap.size,0,none⟩) n n)) (.int .i64 0) n 3
      simp only [World.size_setCell] at h2
      rw [← e1]
      exact h2
     ·exact ((HROWS.out j (by omega)).setOther (a:=⟨w1.heap.size,i,none⟩) (by show w1.heap.size+1+j≠w1.heap.size;omega) _).alloc _
   case measure=>simp [intOf];omega
  ·have ek:i=(eqsF ds).length:=by omega
   subst ek
   have hbw:Below w.heap.size w wr:=HB1.out.trans (hbel.mono HB1.out.size)
   have HMAT:Hid (MatI wr w1.heap.size (eqsF ds).length n (fun i=>w1.heap.size+1+i) (fun _ _=>0)):=hide ⟨fun i hi=>(hout.cell hi).trans (by simp [hi]),fun i hi=>hrows i hi,fun i j _ _ e=>by omega,fun i _=>by omega⟩
   have HSZ:=hide hsz
   have HBW:=hide hbw
   have HBEL:=hide hbel
   clear hsz hout hrows hbel hbw
   go_wp2_with fail
   refine (HOR.out _ (HP.out.below HBW.out)).mono ?_
   rintro e w3 ⟨vT,T,rfl,hO,hown,hb3⟩
   have hSS:SS w w3 ds (.slice aE (eqsF ds).length cE) vT T w1.heap.size n (fun i=>w1.heap.size+1+i) (fun _ _=>0):=by
    have hs1:=HB1.out.size
    have hsz:=HSZ.out
    refine ⟨HBW.out.trans (hb3.mono HBW.out.size),own_eqb (own_eqb HE1.out (fun b e=>HBEL.out.block b (HE1.out.lt b e).2)) (fun b e=>hb3.block b (by have:=(HE1.out.lt b e).2;omega)),own_wkO hown HBW.out.size,HMAT.out.below hb3,by have:=hb3.size;omega,⟨by omega,fun i hi=>by omega⟩,fun i hi=>⟨fun e=>by have:=(HE1.out.lt _ e).2;omega,fun e=>by have:=(hown.lt _ e).1;omega⟩⟩
   have hO':=hO
   obtain ⟨aT,cT,rfl,hshT⟩:=own_shape hown
   have p1:=(HP.out.below hSS.bel).c1
   have hnc:vn=vn:=rfl
   have HSS:=hide hSS
   have HO:=hide hO
   clear hSS hO hO' hown hb3 hnc HOR
   obtain ⟨an,capn,rfl,_⟩:=own_shape HP.out.nodes
   go_wp2
   obtain ⟨R,hRe⟩:∃ R:Nat→Nat,R=fun i=>w1.heap.size+1+i:=⟨_,rfl⟩
   rw [← hRe] at HSS
   have hRl:∀ i,i<(eqsF ds).length→R i<w3.heap.size:=fun i hi=>World.rowIs.lt (HSS.out.mat.rows i hi)
   have HRL:=hide hRl
   have HZ:=hide (World.rowIs_made w3 (.int .i64 0) ns.length 3)
   have hTl:=HO.out.len
   clear hRe hRl HMAT
   go_loopw [11,12] (fun vb vk wr=>∃ (k gb:Nat) (Y:Nat→Int) (F:Nat→Nat→Int),k≤n∧vk = .int .i64 k∧vb = .slice (some ⟨gb,0,none⟩) ns.length ns.length∧SS w wr ds (.slice aE (eqsF ds).length cE) (.slice aT T.length cT) T w1.heap.size n R F∧wr.rowIs gb 3 ns.length (fun j=>.int .i64 (Y j))∧(k≠0→∀ c,c<ns.length→Y c=NV (k - 1) c)∧(∀ a b,a<(eqsF ds).length→b<k→F a b=S a b)∧w3.heap.size≤wr.heap.size) (fun _ vk _=>n - (intOf vk).toNat)
   case atStart=>exact ⟨0,w3.heap.size,fun _=>0,fun _ _=>0,Nat.zero_le _,rfl,rfl,HSS.out.alloc _,HZ.out,fun h=>absurd rfl h,fun a b _ h=>by omega,by simp⟩
   case round=>
    clear HZ HSS p1
    obtain ⟨k,gb,Y,F,hk,rfl,rfl,hSS,hY,hYv,hF,h3l⟩:=hrel
    by_cases hkn:k<n
    ·have p1:=(HP.out.below hSS.bel).c1
     have j1:(k:Int)<(n:Int):=by omega
     have j0:(0:Int)≤(k:Int):=by omega
     have hT:RowAt wr (.slice aT T.length cT) (T.map fun (t:Nat)=>(t:Int)):=own_row (by have:=hSS.ord;rw [tCells_i] at this;exact this) (by omega) (by simp)
     have HFI:=hide (fun W bq g X0 hW=>fill_any wr W q ds ns vd _ vX (.slice aT T.length cT) ins NV T (HP.out.below hSS.bel) HWF.out (HX.out.below hSS.bel) hT HM.out HO.out bq g gb k X0 Y hW hYv)
     have HSS:=hide hSS
     have HY:=hide hY
     have HF:=hide hF
     have H3L:=hide h3l
     clear hSS hY hYv hF hT h3l
     go_wp2_with fail
     refine (HFI.out _ (wr.heap.size+1) wr.heap.size (fun _=>0) ⟨((Below.refl _ _).alloc (Nat.le_refl _) _).alloc (by simp) _,?_,?_,HY.out,by omega,Nat.le_refl _,by omega⟩).mono ?_
     ·have h1:=heap_alloc_new (wr.alloc (.cells (madeCells #[.int .i64 0] ns.length) 3)) (.cells #[.int .i64 (k:Int),.slice (some ⟨wr.heap.size,0,none⟩) ns.length ns.length,.slice (some ⟨gb,0,none⟩) ns.length ns.length] 87)
      simpa using h1
     ·exact (World.rowIs_made wr (.int .i64 0) ns.length 3).alloc _
     rintro e w4 ⟨rfl,X,hB4,hX4⟩
     obtain ⟨g,hg⟩:∃ g,g=wr.heap.size:=⟨_,rfl⟩
     have hRg:∀ i,i<(eqsF ds).length→R i<g:=fun i hi=>by have:=HRL.out i hi;have:=H3L.out;omega
     have hgl:g≤w4.heap.size:=by have:=hB4.bel.size;omega
     have HS4:=hide (HSS.out.below hB4.bel)
     have HBK:=hide hB4.blk
     have HNW:=hide hB4.now
     have HX4:=hide hX4
     have HRG:=hide hRg
     have h3l4:w3.heap.size≤w4.heap.size:=by have:=H3L.out;omega
     have hgw:w.heap.size≤g:=by have:=HSS.out.bel.size;omega
     rw [← hg] at HBK HNW
     rw [← hg]
     clear hB4 hX4 HFI HSS HY hRg p1 hg
     go_wp2
     go_loopw [60] (fun vi wx=>∃ (i:Nat) (F2:Nat→Nat→Int),i≤(eqsF ds).length∧vi = .int .i64 i∧SS w wx ds (.slice aE (eqsF ds).length cE) (.slice aT T.length cT) T w1.heap.size n R F2∧wx.heap[g+1]? = some (.cells #[.int .i64 (k:Int),.slice (some ⟨g,0,none⟩) ns.length ns.length,.slice (some ⟨gb,0,none⟩) ns.length ns.length] 87)∧wx.rowIs g 3 ns.length (fun j=>.int .i64 (X j))∧(∀ a b,a<(eqsF ds).length→b<k→F2 a b=S a b)∧(∀ a,a<i→F2 a k=S a k)∧w3.heap.size≤wx.heap.size) (fun vi _=>(eqsF ds).length - (intOf vi).toNat)
     case atStart=>exact ⟨0,F,Nat.zero_le _,rfl,HS4.out,HBK.out,HNW.out,HF.out,fun a ha=>by omega,h3l4⟩
     case round=>
      clear HS4 HBK HNW HF
      obtain ⟨i,F2,hi,rfl,hSS,hbk,hnw,hF,hFk,h3x⟩:=hrel
      by_cases hil:i<(eqsF ds).length
      ·obtain ⟨ge,rfl,_,hge⟩:=hshE (by omega)
       obtain ⟨d,hd⟩:∃ d,d=(eqsF ds)[i]'hil:=⟨_,rfl⟩
       have hdm:d∈ds:=(List.mem_filter.1 (by rw [hd];exact List.getElem_mem hil)).1
       have hdk:d.kind≠0:=by have:=(List.mem_filter.1 (by rw [hd];exact List.getElem_mem hil:d∈eqsF ds)).2;simpa using this
       have hdi:(eqsF ds)[i]? = some d:=by rw [List.getElem?_eq_getElem hil,hd]
       obtain ⟨a,ha,had⟩:=List.getElem_of_mem hdm
       have hrl:d.root<ns.length:=(HM.out.root a d (by rw [List.getElem?_eq_getElem ha,had]) hdk).1
       obtain ⟨x0,x1,x2,x3,x4,x5,x6⟩:=dc_later (own_zero hSS.eqs) (Below.refl _ wr) ((hSS.eqs.lt ge rfl).2) hil d hd
       have j3:(0:Int)≤(i:Int):=by omega
       have j4:(i:Int)<((eqsF ds).length:Int):=by omega
       have r1:(0:Int)≤(d.root:Int):=by omega
       have r2:(d.root:Int)<(ns.length:Int):=by omega
       have hS:=HS.out i d k hdi
       have hXr:=HX4.out d.root hrl
       have hg1:g+1<wr.heap.size:=(Array.getElem?_eq_some_iff.1 hbk).1
       have o1:∀ o,(wr.alloc o).cell? ⟨w1.heap.size,i,none⟩=some (.slice (some ⟨R i,0,none⟩) n n):=fun o=>(hSS.alloc o).mat.outer i hil
       have o2:∀ o,(wr.alloc o).cell? ⟨R i,k,none⟩=some (.int .i64 (F2 i k)):=fun o=>(hSS.alloc o).mat.cell hil hkn
       have o3:∀ o,(wr.alloc o).frozen? ⟨R i,k,none⟩=false:=fun o=>(hSS.alloc o).mat.froz hil k
       have o4:∀ o,(wr.alloc o).cell? ⟨g+1,1,none⟩=some (.slice (some ⟨g,0,none⟩) ns.length ns.length):=fun o=>(World.cell?_alloc_past _ _ _ hg1).trans ((cell_of_row wr _ 1 _ _ _ hbk).trans rfl)
       have o5:∀ o,(wr.alloc o).cell? ⟨g,d.root,none⟩=some (.int .i64 (X d.root)):=fun o=>(hnw.alloc o).cell hrl
       have hRg:=HRG.out i hil
       have hrs:=hSS.ge.2 i hil
       have HSS:=hide hSS
       have HBK:=hide hbk
       have HNW:=hide hnw
       have HF:=hide hF
       have HFK:=hide hFk
       have HXR:=hide (hXr.trans hS)
       clear hSS hbk hnw hF hFk hd hdm hdk hdi ha had hXr hS
       go_wp2_with fail
       go_big_region
       go_wp2
       go_roundw
       case rel=>
        refine ⟨i+1,fun a b=>if a=i∧b=k then X d.root else F2 a b,by omega,by go_num,?_,?_,?_,fun a b ha hb=>?_,fun a ha=>?_,?_⟩
        ·first | exact ((HSS.out.alloc _).drew.set hil k _) | exact ((HSS.out.alloc _).set hil k _).drew
        ·exact (heap_setCell_other _ ⟨R i,k,none⟩ (g+1) _ (by show g+1≠R i;omega)).trans ((Below.heap_alloc _ _ _ hg1).trans HBK.out)
        ·exact HNW.out.of_block ((heap_setCell_other _ ⟨R i,k,none⟩ g _ (by show g≠R i;omega)).trans (Below.heap_alloc _ _ _ (by omega)))
        ·have:¬ (a=i∧b=k):=fun e=>by omega
         simp only [if_neg this];exact HF.out a b ha hb
        ·by_cases e:a=i
         ·subst e;simp only [and_self,if_true];exact HXR.out
         ·simp only [e,false_and,if_false];exact HFK.out a (by omega)
        ·simp;omega
       case measure=>simp [intOf];omega
      ·have ei:i=(eqsF ds).length:=by omega
       subst ei
       have o4:wr.cell? ⟨g+1,1,none⟩=some (.slice (some ⟨g,0,none⟩) ns.length ns.length):=(cell_of_row wr _ 1 _ _ _ hbk).trans rfl
       have HSS:=hide hSS
       have HNW:=hide hnw
       have HF:=hide hF
       have HFK:=hide hFk
       clear hSS hbk hnw hF hFk
       go_wp2
       go_roundw
       case rel=>
        refine ⟨k+1,g,X,F2,by omega,by go_num,rfl,HSS.out,HNW.out,fun _ c hc=>HX4.out c hc,fun a b ha hb=>?_,h3x⟩
        rcases Nat.lt_succ_iff_lt_or_eq.1 hb with h' | rfl
        ·exact HF.out a b ha h'
        ·exact HFK.out a ha
       case measure=>simp [intOf];omega
    ·have ek:k=n:=by omega
     subst ek
     have HSS:=hide hSS
     have HF:=hide hF
     clear hSS hY hYv hF h3l
     go_wp2
     go_ret
     refine ⟨_,rfl,⟨⟨_,w1.heap.size,(eqsF ds).length,R,rfl,fun _=>rfl,HSS.out.mat.congr (fun a b ha hb=>HF.out a b ha hb),HSS.out.ge.2,HSS.out.ge.1⟩⟩,HSS.out.bel⟩
end Go.Proofs.YtmndgoapkmhglaaGreat
