import Derived.Test.YtmndgoapkmhglaaGreatM10LawN
import Derived.Test.YtmndgoapkmhglaaGreatM34LawPk
import Derived.Test.YtmndgoapkmhglaaGreatM47LawH
import Derived.Test.YtmndgoapkmhglaaGreatM50CdH
import Derived.Test.YtmndgoapkmhglaaGreatM53PCd
namespace Go.Proofs.YtmndgoapkmhglaaGreat
open Go.RowKit
theorem step_small {s:ByteArray} (h0:(textF s).1=0) {L:List Dl} (hG:RGood s L) {pl:Int}{c:CdF} (h:StepOk (toks s) L pl c s.size):c.ops.length≤1500∧c.cells.length≤1500∧c.next.length≤1500∧c.out.length≤1500:=by
 have hs:=text_le h0
 obtain ⟨p,hp,_,_⟩:=hG.parse
 have hf:=h.formed
 unfold formedF at hf
 simp only [Bool.and_eq_true,decide_eq_true_eq] at hf
 obtain ⟨⟨⟨⟨_,h4⟩,_⟩,_⟩,_⟩:=hf
 have s3:=spell_sum L 0 hG.sp
 have s4:=len_sum (toks s) pl L
 have s5:=fby_len (toks s) pl L
 have s6:=fby_sum (toks s) pl L
 have s7:=h.cells
 have s8:=toks_len s
 have s9:=h.out
 have t1:=atG_len (toks s) L pl (eqL L).length
 have t2:=(few_decls hs hp hG).2
 have t3:=h.ops
 have t4:(atR (toks s) L pl).length≤(eqL L).length:=t1
 refine ⟨by omega,by omega,by omega,by omega⟩
theorem CodeCp.at' {w:World}{B:Nat}{Ac An Au:Option Addr}{c:CdF}{vO vC vN vU:Value} (h:CodeCp w B Ac An Au c vO vC vN vU) (hc:Ac=none→c.cells=[]) (hn:An=none→c.next=[]) (hu:Au=none→c.out=[]) (h1:c.ops.length≤1500) (h2:c.cells.length≤1500) (h3:c.next.length≤1500) (h4:c.out.length≤1500):CodeAt w vO vC vN vU c:=
 ⟨h.ops.at (by omega),h.cells.row hc (by omega),h.next.row hn (by omega),h.out.row hu (by omega)⟩
theorem own_none {w:World}{B e size n cap:Nat}{a:Option Addr}{xs:List Value} (h:w.ownsRow B e size (.slice a n cap) n xs) (ha:a=none):n=0:=by
 rcases h.2 with ⟨_,h0⟩ | ⟨g,cp,cur,he,_⟩
 ·exact h0
 ·cases ha
  cases he
theorem CodeOwn.arg {w:World}{B:Nat}{aO aC aN aU:Option Addr}{cO cC cN cU:Nat}{c:CdF} (h:CodeOwn w B (.slice aO c.ops.length cO) (.slice aC c.cells.length cC) (.slice aN c.next.length cN) (.slice aU c.out.length cU) c) (h1:c.ops.length≤1500) (h2:c.cells.length≤1500) (h3:c.next.length≤1500) (h4:c.out.length≤1500):ArgC w aO aC aN aU cO cC cN cU c:=by
 have hA:=h.at h1 h2 h3 h4
 exact ⟨hA.ops,⟨hA.cells,fun e=>List.length_eq_zero_iff.1 (own_none h.cells e),by omega⟩,⟨hA.next,fun e=>List.length_eq_zero_iff.1 (own_none h.next e),by omega⟩,⟨hA.out,fun e=>List.length_eq_zero_iff.1 (own_none h.out e),by omega⟩⟩
theorem CodeCp.shape {w:World}{B:Nat}{Ac An Au:Option Addr}{c:CdF}{vO vC vN vU:Value} (h:CodeCp w B Ac An Au c vO vC vN vU):(∃ a n k,vO = .slice a n k)∧(∃ a n k,vC = .slice a n k)∧(∃ a n k,vN = .slice a n k)∧(∃ a n k,vU = .slice a n k):=by
 obtain ⟨G,_,_,rfl,_⟩:=h.ops
 exact ⟨⟨_,_,_,rfl⟩,h.cells.shape,h.next.shape,h.out.shape⟩
theorem box_at {w W:World}{v0 v1 v2 v3:Value} (h:W.heap[w.heap.size]? = some (.cells #[v0,v1,v2,v3] 43)) :
  W.cell? ⟨w.heap.size,0,none⟩=some v0∧W.cell? ⟨w.heap.size,1,none⟩=some v1∧W.cell? ⟨w.heap.size,2,none⟩=some v2∧W.cell? ⟨w.heap.size,3,none⟩=some v3:=
 ⟨by rw [cell_of_row W _ 0 _ _ _ h];rfl,by rw [cell_of_row W _ 1 _ _ _ h];rfl,by rw [cell_of_row W _ 2 _ _ _ h];rfl,by rw [cell_of_row W _ 3 _ _ _ h];rfl⟩
end Go.Proofs.YtmndgoapkmhglaaGreat
namespace Go.Proofs.YtmndgoapkmhglaaGreat
open Go.RowKit
attribute [local go_sem ↓] Go.wp_at_zero Go.wp_at_succ
set_option maxHeartbeats 8000000 in
set_option maxRecDepth 100000 in
theorem coded_any (s:ByteArray) (hs:s.size≤maxLen) (w:World) (pl:Int) (A:Option Addr) (C:Nat) (ins:List (List Int)) (hX:LsAt w (.slice A ins.length C) ins) (n junk:Int) (hn : -9223372036854775808≤n) (hn':n≤9223372036854775807) :
  Calls Tryz.prog 4 #[.string s,.int .i64 pl,.slice A ins.length C,.int .i64 n,.int .i64 junk] w fun e w'=>e = .returned (.bool true)∧Below w.heap.size w w':=by
 obtain ⟨L,hL⟩:∃ L,(textF s).1=0→RGood s L:=by
  by_cases h0:(textF s).1=0
  ·obtain ⟨L,hG,_⟩:=good_text h0
   exact ⟨L,fun _=>hG⟩
  ·exact ⟨[],fun h=>absurd h h0⟩
 have HX:=hide hX
 have HPK:=hide (fun W=>lpick_any n W hn hn')
 have HCD:=hide (fun W q=>pcode_any s hs L hL W q)
 have HRC:Hid (∀ W,Calls Tryz.prog 14 #[.string s,.int .i64 pl] W fun e w'=>e = .returned (.int .i64 (codeE s L pl:Int))∧Below W.heap.size W w'):=hide (fun W=>by
  refine (rcoded_any s W pl).mono ?_
  rintro e w' ⟨L',rfl,hL',hb⟩
  exact ⟨by rw [codeE_same hL' hL pl],hb⟩)
 have HST:=hide (fun W k h=>streams_any s hs W (.slice A ins.length C) ins h k)
 have HZ:Hid (codeE s L pl=0→(textF s).1=0):=hide (fun h=>by
  by_cases h0:(textF s).1=0
  ·exact h0
  ·unfold codeE at h;rw [if_pos h0] at h;exact h)
 have HL:=hide hL
 clear hX hs hL hn hn'
 go_enter Tryz.func4,Tryz.ntmps4
 go_wp2_with fail
 refine (HCD.out w pl).mono ?_
 rintro e w1 ⟨vO,vC,vN,vU,rfl,hq,hb1⟩
 have HB1:=hide hb1
 have HQ:=hide hq
 clear hb1 hq
 by_cases hz:codeE s L pl=0
 ·have H0:=hide (HZ.out hz)
  have HG:=hide (HL.out (HZ.out hz))
  have hown:=HQ.out.own hz
  have hstep:=HQ.out.step hz
  obtain ⟨l1,l2,l3,l4⟩:=step_small (HZ.out hz) (HL.out (HZ.out hz)) hstep
  have HSO:Hid (∀ L',RGood s L'→Right (toks s) L'→StepOk (toks s) L' pl (codeC s L pl) s.size):=hide (fun L' h1 _=>by
   obtain ⟨se,si⟩:=spell_same (toks_F s) HG.out.sp h1.sp
   exact step_same se si hstep)
  have HC2:Hid (∀ W,Calls Tryz.prog 13 #[.string s,.int .i64 pl] W fun e w'=>∃ aO aC aN aU cO cC cN cU,e = .returned (.tuple #[.agg #[.slice aO (codeC s L pl).ops.length cO,.slice aC (codeC s L pl).cells.length cC,.slice aN (codeC s L pl).next.length cN,.slice aU (codeC s L pl).out.length cU],.int .i64 0])∧CodeOwn w' W.heap.size (.slice aO (codeC s L pl).ops.length cO) (.slice aC (codeC s L pl).cells.length cC) (.slice aN (codeC s L pl).next.length cN) (.slice aU (codeC s L pl).out.length cU) (codeC s L pl)∧Below W.heap.size W w'):=hide (fun W=>by
   refine (HCD.out W pl).mono ?_
   rintro e w' ⟨vO,vC,vN,vU,rfl,hq,hb⟩
   have ho:=hq.own hz
   obtain ⟨aO,cO,rfl,_⟩:=own_shape ho.ops
   obtain ⟨aC,cC,rfl,_⟩:=own_shape ho.cells
   obtain ⟨aN,cN,rfl,_⟩:=own_shape ho.next
   obtain ⟨aU,cU,rfl,_⟩:=own_shape ho.out
   exact ⟨_,_,_,_,_,_,_,_,by rw [hz];rfl,ho,hb⟩)
  have HC1:Hid (∀ W q,Calls Tryz.prog 13 #[.string s,.int .i64 q] W fun e w'=>∃ v,e = .returned v∧Below W.heap.size W w'):=hide (fun W q=>by
   refine (HCD.out W q).mono ?_
   rintro e w' ⟨_,_,_,_,rfl,_,hb⟩
   exact ⟨_,rfl,hb⟩)
  obtain ⟨aO,cO,rfl,_⟩:=own_shape hown.ops
  obtain ⟨aC,cC,rfl,_⟩:=own_shape hown.cells
  obtain ⟨aN,cN,rfl,_⟩:=own_shape hown.next
  obtain ⟨aU,cU,rfl,_⟩:=own_shape hown.out
  generalize codeC s L pl=c at *
  have HL1:=hide l1
  have HL2:=hide l2
  have HL3:=hide l3
  have HL4:=hide l4
  have HOW:=hide hown
  have HCE:=hide hz
  rw [hz] at HRC
  clear hown hstep l1 l2 l3 l4 HQ HZ HL HCD
  obtain ⟨wa,hwa⟩:∃ wa,wa=w1.alloc (.cells #[.slice aO c.ops.length cO,.slice aC c.cells.length cC,.slice aN c.next.length cN,.slice aU c.out.length cU] 43):=⟨_,rfl⟩
  have HBA:Hid (Below w1.heap.size w1 wa):=hide (by rw [hwa];exact (Below.refl _ _).alloc (Nat.le_refl _) _)
  have HSA:Hid (w1.heap.size<wa.heap.size):=hide (by rw [hwa];simp)
  have HKA:Hid (wa.heap[w1.heap.size]? = some (.cells #[.slice aO c.ops.length cO,.slice aC c.cells.length cC,.slice aN c.next.length cN,.slice aU c.out.length cU] 43)):=hide (by rw [hwa];exact heap_alloc_new w1 _)
  rw [hz]
  clear hz
  go_wp2_with fail
  rw [← hwa]
  refine (HRC.out wa).mono ?_
  rintro e w2 ⟨rfl,hb2⟩
  have HB2:=hide hb2
  have HK2:=hide ((hb2.block _ HSA.out).trans HKA.out)
  clear hb2 hwa HRC
  go_wp2_with fail
  refine (num_of _ _).mono ?_
  rintro e w2' ⟨rfl,rfl⟩
  go_wp2_with fail
  refine (HPK.out _).mono ?_
  rintro e w2' ⟨rfl,rfl⟩
  obtain ⟨k,hk⟩:∃ k,k=pickL n:=⟨_,rfl⟩
  have hk2:k≤200:=by have:=pickL_lt n;omega
  rw [← hk]
  clear hk HPK
  obtain ⟨b0,b1,b2,b3⟩:=box_at HK2.out
  have HW2:Hid (Below w.heap.size w w2):=hide (by
   have h1:=HB1.out.trans (HBA.out.mono HB1.out.size)
   exact h1.trans (HB2.out.mono h1.size))
  have HO2:=hide ((HOW.out.keep HBA.out).keep HB2.out)
  have HM:=hide (rmeant_any s w2 pl _ _ _ _ c (HO2.out.at HL1.out HL2.out HL3.out HL4.out) (.slice A ins.length C) ins (HX.out.below HW2.out) k hk2 junk H0.out HSO.out)
  clear hk2 HSO
  go_wp2_with fail
  refine HM.out.mono ?_
  rintro e w3 ⟨rfl,hb3⟩
  have HB3:=hide hb3
  have HW3:Hid (Below w.heap.size w w3):=hide (HW2.out.trans (hb3.mono HW2.out.size))
  have HO3:=hide (HO2.out.keep hb3)
  have HK3:=hide ((hb3.block _ (Nat.lt_of_lt_of_le HSA.out HB2.out.size)).trans HK2.out)
  clear b0 b1 b2 b3 hb3 HM HO2 HK2
  obtain ⟨b0,b1,b2,b3⟩:=box_at HK3.out
  have HAR:=hide (HO3.out.arg HL1.out HL2.out HL3.out HL4.out)
  go_wp2_with fail
  refine (lcopied_any w3 _ _ _ _ _ _ _ _ c HAR.out).mono ?_
  rintro e w4 ⟨uO,uC,uN,uU,rfl,hcp,hb4⟩
  obtain ⟨⟨gO,mO,kO,rfl⟩,⟨gC,mC,kC,rfl⟩,⟨gN,mN,kN,rfl⟩,⟨gU,mU,kU,rfl⟩⟩:=hcp.shape
  have HB4:=hide hb4
  have HCP:=hide hcp
  clear b0 b1 b2 b3 hb4 hcp
  obtain ⟨wb,hwb⟩:∃ wb,wb=w4.alloc (.cells #[.slice gO mO kO,.slice gC mC kC,.slice gN mN kN,.slice gU mU kU] 43):=⟨_,rfl⟩
  have HBB:Hid (Below w4.heap.size w4 wb):=hide (by rw [hwb];exact (Below.refl _ _).alloc (Nat.le_refl _) _)
  have HSB:Hid (w4.heap.size<wb.heap.size):=hide (by rw [hwb];simp)
  have HKB:Hid (wb.heap[w4.heap.size]? = some (.cells #[.slice gO mO kO,.slice gC mC kC,.slice gN mN kN,.slice gU mU kU] 43)):=hide (by rw [hwb];exact heap_alloc_new w4 _)
  have HB3b:Hid (Below w3.heap.size w3 wb):=hide (HB4.out.trans (HBB.out.mono HB4.out.size))
  have h13:w1.heap.size<w3.heap.size:=by have:=HSA.out;have:=HB2.out.size;have:=HB3.out.size;omega
  have h34:w3.heap.size≤w4.heap.size:=HB4.out.size
  have HKW:=hide ((HB3b.out.block _ h13).trans HK3.out)
  obtain ⟨b0,b1,b2,b3⟩:=box_at HKW.out
  obtain ⟨d0,d1,d2,d3⟩:=box_at HKB.out
  have HOB:=hide (HO3.out.keep HB3b.out)
  have HCB:=hide (HCP.out.below HBB.out)
  have HWB:Hid (Below w.heap.size w wb):=hide (HW3.out.trans (HB3b.out.mono HW3.out.size))
  have HLT:Hid (∀ i,i<4→∀ g,(codeV (.slice aO c.ops.length cO) (.slice aC c.cells.length cC) (.slice aN c.next.length cN) (.slice aU c.out.length cU) i).ownBlock=some g→w.heap.size≤g∧g<w1.heap.size):=hide HOW.out.blk
  have HSH:=hide (lshared_any wb w.heap.size w3.heap.size c _ _ _ _ _ _ _ _ _ _ _ HOB.out HCB.out HAR.out.next.2.1 HAR.out.out.2.1 HL1.out HL2.out HL3.out HL4.out (fun i hi g hg=>Nat.lt_trans (HLT.out i hi g hg).2 h13))
  have HS13:=hide h13
  have HS34:=hide h34
  clear h13 h34 HK3 HO3 HOB HCP HKW
  rw [hwb] at b0 b1 b2 b3 d0 d1 d2 d3
  go_wp2_with fail
  rw [← hwb]
  clear b0 b1 b2 b3 d0 d1 d2 d3
  refine HSH.out.mono ?_
  rintro e w5 ⟨rfl,hf5⟩
  have HLB:Hid (∀ g,w3.heap.size≤g→g<wb.heap.size→w5.heap[g]? = wb.heap[g]?):=hide (fun g h1 h2=>hf5.block g ⟨h2,fun i hi e=>by have:=(HLT.out i hi g e).2;have:=HS13.out;omega⟩)
  have HW5:Hid (Below w.heap.size w w5):=hide (HWB.out.trans ⟨hf5.os,hf5.tape,hf5.output,hf5.size,fun g hg=>hf5.block g ⟨Nat.lt_of_lt_of_le hg HWB.out.size,fun i hi e=>by have:=(HLT.out i hi g e).1;omega⟩⟩)
  have HC5:=hide (HCB.out.fr hf5.size (fun g h1 h2=>HLB.out g h2 h1))
  have HK5:=hide ((HLB.out _ HS34.out HSB.out).trans HKB.out)
  have HZ5:Hid (w4.heap.size<w5.heap.size):=hide (Nat.lt_of_lt_of_le HSB.out hf5.size)
  clear hf5 HSH hwb HCB HKB HLB HOW
  go_wp2_with fail
  refine (HC1.out w5 _).mono ?_
  rintro e w6 ⟨v6,rfl,hb6⟩
  have HB6:=hide hb6
  have HW6:Hid (Below w.heap.size w w6):=hide (HW5.out.trans (hb6.mono HW5.out.size))
  clear hb6 HC1
  go_wp2_with fail
  refine (HST.out w6 _ (HX.out.below HW6.out)).mono ?_
  rintro e w7 ⟨v7,rfl,_,hb7⟩
  have HB7:=hide (HB6.out.trans (hb7.mono HB6.out.size))
  have HW7:Hid (Below w.heap.size w w7):=hide (HW6.out.trans (hb7.mono HW6.out.size))
  clear hb7 HST HX
  go_wp2_with fail
  refine (HC2.out w7).mono ?_
  rintro e w8 ⟨eO,eC,eN,eU,fO,fC,fN,fU,rfl,ho8,hb8⟩
  have HB8:=hide (HB7.out.trans (hb8.mono HB7.out.size))
  have HW8:Hid (Below w.heap.size w w8):=hide (HW7.out.trans (hb8.mono HW7.out.size))
  have HO8:=hide ho8
  clear hb8 ho8 HC2
  obtain ⟨wc,hwc⟩:∃ wc,wc=w8.alloc (.cells #[.slice eO c.ops.length fO,.slice eC c.cells.length fC,.slice eN c.next.length fN,.slice eU c.out.length fU] 43):=⟨_,rfl⟩
  have HBC:Hid (Below w8.heap.size w8 wc):=hide (by rw [hwc];exact (Below.refl _ _).alloc (Nat.le_refl _) _)
  have HB9:=hide (HB8.out.trans (HBC.out.mono HB8.out.size))
  have HW9:Hid (Below w.heap.size w wc):=hide (HW8.out.trans (HBC.out.mono HW8.out.size))
  have HKD:Hid (wc.heap[w8.heap.size]? = some (.cells #[.slice eO c.ops.length fO,.slice eC c.cells.length fC,.slice eN c.next.length fN,.slice eU c.out.length fU] 43)):=hide (by rw [hwc];exact heap_alloc_new w8 _)
  have HKE:=hide ((HB9.out.block _ HZ5.out).trans HK5.out)
  obtain ⟨b0,b1,b2,b3⟩:=box_at HKD.out
  obtain ⟨d0,d1,d2,d3⟩:=box_at HKE.out
  have HTW:=hide (ltwin_any wc c _ _ _ _ _ _ _ _ ((HO8.out.keep HBC.out).at HL1.out HL2.out HL3.out HL4.out) ((HC5.out.below HB9.out).at' HAR.out.cells.2.1 HAR.out.next.2.1 HAR.out.out.2.1 HL1.out HL2.out HL3.out HL4.out))
  rw [hwc] at b0 b1 b2 b3 d0 d1 d2 d3
  clear HKD HKE HK5 HC5 HO8
  go_wp2_with fail
  refine (num_of _ _).mono ?_
  rintro e wd ⟨rfl,rfl⟩
  go_wp2_with fail
  rw [← hwc]
  refine HTW.out.mono ?_
  rintro e w9 ⟨rfl,hb9⟩
  have HWE:Hid (Below w.heap.size w w9):=hide (HW9.out.trans (hb9.mono HW9.out.size))
  clear hb9 hwc b0 b1 b2 b3 d0 d1 d2 d3
  go_wp2
  go_ret
  exact ⟨rfl,HWE.out⟩
 ·obtain ⟨rfl,rfl,rfl,rfl⟩:=HQ.out.no hz
  obtain ⟨ce,hce⟩:∃ ce,ce=codeE s L pl:=⟨_,rfl⟩
  rw [← hce] at hz HRC ⊢
  have q0:((ce:Int) != 0)=true:=by rw [bne_iff_ne];omega
  clear HQ HZ HL HCD HST HPK HX hz hce
  obtain ⟨wa,hwa⟩:∃ wa,wa=w1.alloc (.cells #[.slice none 0 0,.slice none 0 0,.slice none 0 0,.slice none 0 0] 43):=⟨_,rfl⟩
  have HBA:Hid (Below w1.heap.size w1 wa):=hide (by rw [hwa];exact (Below.refl _ _).alloc (Nat.le_refl _) _)
  have HSA:Hid (w1.heap.size<wa.heap.size):=hide (by rw [hwa];simp)
  have HKA:Hid (wa.heap[w1.heap.size]? = some (.cells #[.slice none 0 0,.slice none 0 0,.slice none 0 0,.slice none 0 0] 43)):=hide (by rw [hwa];exact heap_alloc_new w1 _)
  go_wp2_with fail
  rw [← hwa]
  refine (HRC.out wa).mono ?_
  rintro e w2 ⟨rfl,hb2⟩
  have HW2:Hid (Below w.heap.size w w2):=hide (by
   have h1:=HB1.out.trans (HBA.out.mono HB1.out.size)
   exact h1.trans (hb2.mono h1.size))
  obtain ⟨b0,b1,b2,b3⟩:=box_at ((hb2.block _ HSA.out).trans HKA.out)
  clear hb2 hwa HRC
  go_wp2_with fail
  refine (num_of _ _).mono ?_
  rintro e w2' ⟨rfl,rfl⟩
  go_wp2
  go_ret
  exact ⟨rfl,HW2.out⟩
end Go.Proofs.YtmndgoapkmhglaaGreat
