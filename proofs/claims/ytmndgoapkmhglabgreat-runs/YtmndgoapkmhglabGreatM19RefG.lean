import Derived.Deep.LoopGhost
import Derived.Test.YtmndgoapkmhglabGreatM18RefF
namespace Go.Proofs.YtmndgoapkmhglabGreat
open Go.RowKit
attribute [local go_sem ↓] Go.wp_at_zero Go.wp_at_succ
theorem Ans.len {ts:List Tk}{n:Nat}{T:List UInt8}{d:Int}{i:Nat}{r:Int} (h:Ans ts n T d i r):T.length≤100∧i<ts.length:=by
 cases h <;> exact ⟨by simp only [List.length_cons];omega,by assumption⟩
theorem Ans.inv {ts:List Tk}{n:Nat}{T:List UInt8}{d:Int}{i:Nat}{r:Int} (h:Ans ts n T d i r):∃ (x:UInt8) (X:List UInt8),T=x :: X∧X.length≤99∧
  ((x=80∧(tkAt ts i).kind=0∧r = -1)∨(¬ (x=80∧(tkAt ts i).kind=0)∧(ruleF x.toNat (rtok (tkAt ts i)) d).2.2=false∧r=((tkAt ts i).pos:Int))∨
   ∃ (k:Nat) (m:List UInt8) (u:Bool),n=k+1∧¬ (x=80∧(tkAt ts i).kind=0)∧ruleF x.toNat (rtok (tkAt ts i)) d=(m,u,true)∧
     Ans ts k (m ++ X) (if u=true∧lAt ts i=[40] then d+1 else if u=true∧lAt ts i=[41] then d - 1 else d) (if u=true then i+1 else i) r):=by
 cases h with
 | done _ X _ _ hi hX hk=>exact ⟨80,X,rfl,hX,.inl ⟨rfl,hk,rfl⟩⟩
 | fail _ x X _ _ hi hX h80 hr=>exact ⟨x,X,rfl,hX,.inr (.inl ⟨h80,hr,rfl⟩)⟩
 | step k x X _ _ _ m u hi hX h80 hr hn=>exact ⟨x,X,rfl,hX,.inr (.inr ⟨k,m,u,rfl,h80,hr,hn⟩)⟩
set_option maxHeartbeats 2000000 in
set_option maxRecDepth 100000 in
theorem stands_any (ts:List Tk) (n0:Nat) (r:Int) (w:World) (g cap:Nat) (h:TokAt w g cap ts) (hF:∀ i,TkF (tkAt ts i)) (hl:ts.length≤1501) (hA:Ans ts n0 [80] 0 0 r) :
  Calls Tryz.prog 36 #[.slice (some ⟨g,0,none⟩) ts.length cap] w fun e w'=>e = .returned (.int .i64 r)∧Below w.heap.size w w':=by
 obtain ⟨i0,hi0,hz0,hz1,hz2⟩:=info_parts Tryz.infoU8
 have HT:=hide h
 have HF:=hide hF
 have HA:=hide hA
 clear h hF hA
 go_enter Tryz.func36,Tryz.ntmps36
 go_wp2
 go_loopg [3,4,5] n0 (fun n v d i wr=>∃ (T:List UInt8) (e:Int) (k:Nat),d = .int .i64 e∧i = .int .i64 k∧e≤(k:Int)∧-(k:Int)≤e∧Ans ts n T e k r∧wr.ownsRow w.heap.size 5 1 v T.length (bCells T.reverse)∧Below w.heap.size w wr)
 case atStart=>
  refine ⟨[80],0,0,rfl,rfl,by omega,by omega,HA.out,?_,(Below.refl _ _).alloc (Nat.le_refl _) _⟩
  exact World.ownsRow_lit w #[.int .u8 80] 1 (Nat.le_refl _) (by unfold maxLen;omega) rfl
 case round=>
  obtain ⟨T,e,k,rfl,rfl,he1,he2,hans,hown,hbel⟩:=hrel
  obtain ⟨hTl,hk⟩:=hans.len
  obtain ⟨a,ha⟩:∃ a,a=rtok (tkAt ts k):=⟨_,rfl⟩
  obtain ⟨x0,x1,x2,x3⟩:=HT.out.cells hbel hk a ha
  have hbs:=hbel.size
  have j1:(0:Int)≤(k:Int):=by omega
  have j2:(k:Int)<(ts.length:Int):=by omega
  obtain ⟨x,X,rfl,hX,hcase⟩:=hans.inv
  obtain ⟨g2,cap2,rfl,hg2,hg3⟩:=hown.form (by simp)
  have hcx:wr.cell? ⟨g2,X.length,none⟩=some (.int .u8 (x.toNat:Int)):=by
   have:=hown.cellAt X.length (by simp)
   rw [this]
   simp [bCells]
  have hcap:X.length+1≤cap2:=by
   rcases hown.2 with ⟨h0,_⟩ | ⟨_,c',_,h1,_,_,h2,_⟩
   ·cases h0
   ·cases h1;simpa using h2
  have HOWN:=hide hown
  simp only [List.length_cons] at hTl ⊢
  have i1:(0:Int)<((X.length+1:Nat):Int):=by omega
  have i2:((X.length+1:Nat):Int) - 1=(X.length:Int):=by omega
  have i3:(X.length:Int)<((X.length+1:Nat):Int):=by omega
  have i4:(0:Int)≤(X.length:Int):=by omega
  have i5:(X.length:Int)≤(cap2:Int):=by omega
  have hts:a.c=115→0<a.word.size:=fun h=>by
   have hc:=c115 (tkAt ts k)
   rw [← ha,h] at hc
   have h4:(tkAt ts k).kind=4:=by simpa using hc.symm
   have hw:a.word=(tkAt ts k).text:=by rw [ha];unfold rtok;simp [h4]
   have hne:=(HF.out k).pos (by omega)
   rw [hw]
   rw [← size_len]
   exact List.length_pos_iff.2 hne
  have HSTEP:=hide (tok_step a wr)
  clear hown hans
  rcases hcase with ⟨rfl,hk0,hr⟩ | ⟨h80,hr0,hr⟩ | ⟨n',m,u,hgk,h80,hrule,hnext⟩
  ·have q1:((a.c:Int) == 101)=true:=by
    have:=c101 (tkAt ts k)
    rw [← ha,hk0] at this
    rw [show (101:Int)=((101:Nat):Int) from rfl,beq_cast,this];rfl
   have HR:=hide hr
   clear hr hk0 ha
   go_wp2
   go_ret
   exact ⟨by rw [HR.out];rfl,hbel.alloc hbel.size _⟩
  ·have hq:(((x.toNat:Int) == 80)=true∧((a.c:Int) == 101)=false)∨((x.toNat:Int) == 80)=false:=by
    by_cases hx:x=80
    ·left
     refine ⟨by rw [hx];rfl,?_⟩
     have:=c101 (tkAt ts k)
     rw [← ha,beq_eq_false_iff_ne.2 (fun hz=>h80 ⟨hx,hz⟩)] at this
     rw [show (101:Int)=((101:Nat):Int) from rfl,beq_cast,this]
    ·right
     rw [beq_eq_false_iff_ne]
     intro h
     exact hx (UInt8.toNat_inj.1 (show x.toNat=80 by omega))
   have hp:(tkAt ts k).pos=a.pos:=by rw [ha];rfl
   rw [← ha] at hr0
   rw [hp] at hr
   have HR:=hide hr
   have HR0:=hide hr0
   clear hr hr0 ha hp h80
   rcases hq with ⟨q1,q2⟩ | q1
   all_goals
    go_wp2_with fail
    refine (rule_any x.toNat a e _ hts).mono ?_
    rintro e1 w1 ⟨rfl,hb1⟩
    obtain ⟨m,u,ok,hm⟩:∃ m u ok,ruleF x.toNat a e=(m,u,ok):=⟨_,_,_,rfl⟩
    have hok:=HR0.out
    rw [hm] at hok ⊢
    simp only at hok
    subst hok
    obtain ⟨d0,d1,d2,d3,hbw⟩:=HSTEP.out w1 hb1
    clear hb1 hm
    go_wp2_with fail
    go_ret
    exact ⟨by rw [HR.out];rfl,hbel.trans (hbw.mono hbel.size)⟩
  ·have hq:(((x.toNat:Int) == 80)=true∧((a.c:Int) == 101)=false)∨((x.toNat:Int) == 80)=false:=by
    by_cases hx:x=80
    ·left
     refine ⟨by rw [hx];rfl,?_⟩
     have:=c101 (tkAt ts k)
     rw [← ha,beq_eq_false_iff_ne.2 (fun hz=>h80 ⟨hx,hz⟩)] at this
     rw [show (101:Int)=((101:Nat):Int) from rfl,beq_cast,this]
    ·right
     rw [beq_eq_false_iff_ne]
     intro h
     exact hx (UInt8.toNat_inj.1 (show x.toNat=80 by omega))
   have hk1:=(HF.out k).kw [40] (by decide)
   have hk2:=(HF.out k).kw [41] (by decide)
   rw [← ha] at hrule hk1 hk2
   have hml:=hnext.len.1
   rw [List.length_append] at hml
   have HRU:=hide hrule
   have HNX:=hide hnext
   have HGK:=hide hgk
   have HK:=hide (And.intro hk1 hk2)
   clear hrule hnext hgk ha h80 hk1 hk2
   rcases hq with ⟨q1,q2⟩ | q1
   all_goals
    go_wp2_with fail
    refine (rule_any x.toNat a e _ hts).mono ?_
    rintro e1 w1 ⟨rfl,hb1⟩
    obtain ⟨M,hM1,hM2⟩:∃ M:ByteArray,M.data.toList=m∧tri (m,u,true) = .tuple #[.string M,.bool u,.bool true]:=⟨⟨m.toArray⟩,by simp,rfl⟩
    rw [HRU.out,hM2]
    have hMs:M.size=m.length:=by rw [← hM1,size_len]
    have hown1:=bel_own (HOWN.out.alloc (.cells #[.int .u8 (a.c:Int),.string a.word,.int .i64 (a.pos:Int),.int .i64 (a.n:Int)] 108)) hb1
    rw [List.reverse_cons,bCells_app] at hown1
    have hown2:=ownsRow_pop (by simp [bCells]) hown1
    have hbx1:wr.heap.size<w1.heap.size:=by have:=hb1.size;simp at this;omega
    obtain ⟨d0,d1,d2,d3,hbw⟩:=HSTEP.out w1 hb1
    have hbel1:Below w.heap.size w w1:=hbel.trans (hbw.mono hbel.size)
    have HO2:=hide hown2
    have HM:=hide (And.intro hM1 hMs)
    have k1:(M.size:Int)≤100:=by omega
    clear hb1 hown1 hown2 d0 d2 d3 hbw x0 x1 x2 x3 hcx hM1 hM2 hMs HRU hts HSTEP HOWN
    go_wp2_with fail
    generalize wr.heap.size=B at hg3 hbs d1 hbx1 ⊢
    go_loopw [3,11] (fun v kk wx=>∃ j:Nat,j≤m.length∧kk = .int .i64 ((j:Int) - 1)∧wx.ownsRow w.heap.size 5 1 v (X.length+(m.length - j)) (bCells (X.reverse ++ (m.drop j).reverse))∧Below w.heap.size w wx∧wx.cell? ⟨B,1,none⟩=some (.string a.word)∧v.ownBlock≠some B∧B<wx.heap.size) (fun _ kk _=>((intOf kk)+1).toNat)
    case atStart=>
     refine ⟨m.length,Nat.le_refl _,by rw [HM.out.2],?_,hbel1,d1,?_,hbx1⟩
     ·rw [Nat.sub_self,Nat.add_zero,List.drop_length,List.reverse_nil,List.append_nil]
      exact HO2.out
     ·intro h
      have:g2=B:=by simpa [Value.ownBlock] using h
      omega
    case round=>
     clear hbel hbel1 d1 HO2 hbx1
     obtain ⟨j,hj,rfl,hownx,hbelx,hcx,hne,hBlt⟩:=hrel
     have hbsx:=hbelx.size
     cases j with
     | zero=>
      rw [List.drop_zero,Nat.sub_zero] at hownx
      have hlast:(bCells (X.reverse ++ m.reverse))=bCells (m ++ X).reverse:=by rw [List.reverse_append]
      have hlen:X.length+m.length=(m ++ X).length:=by rw [List.length_append];omega
      rw [hlast,hlen] at hownx
      have HO:=hide hownx
      clear hownx hlast hlen
      have z1:¬ (0:Int)≤((0:Nat):Int) - 1:=by omega
      cases u with
      | false=>
       have hnx:=HNX.out
       rw [if_neg (by simp),if_neg (by simp),if_neg (by simp)] at hnx
       have HN2:=hide hnx
       clear hnx
       go_wp2
       go_roundg n'
       case measure=>have:=HGK.out;omega
       case rel=>exact ⟨m ++ X,e,k,rfl,rfl,he1,he2,HN2.out,HO.out,hbelx⟩
      | true=>
       have hnx:=HNX.out
       by_cases h1:a.l=[40]
       ·have s1:=str_yes (t:=a.word) h1
        rw [if_pos ⟨rfl,HK.out.1.1 h1⟩,if_pos rfl] at hnx
        have HN2:=hide hnx
        clear hnx h1
        go_wp2
        go_roundg n'
        case measure=>have:=HGK.out;omega
        case rel=>exact ⟨m ++ X,e+1,k+1,by go_num,by go_num,by omega,by omega,HN2.out,HO.out,hbelx⟩
       ·have s1:=str_no (t:=a.word) h1
        by_cases h2:a.l=[41]
        ·have s2:=str_yes (t:=a.word) h2
         rw [if_neg (fun h=>h1 (HK.out.1.2 h.2)),if_pos ⟨rfl,HK.out.2.1 h2⟩,if_pos rfl] at hnx
         have HN2:=hide hnx
         clear hnx h1 h2 s1
         go_wp2
         go_roundg n'
         case measure=>have:=HGK.out;omega
         case rel=>exact ⟨m ++ X,e - 1,k+1,by go_num,by go_num,by omega,by omega,HN2.out,HO.out,hbelx⟩
        ·have s2:=str_no (t:=a.word) h2
         rw [if_neg (fun h=>h1 (HK.out.1.2 h.2)),if_neg (fun h=>h2 (HK.out.2.2 h.2)),if_pos rfl] at hnx
         have HN2:=hide hnx
         clear hnx h1 h2
         go_wp2
         go_roundg n'
         case measure=>have:=HGK.out;omega
         case rel=>exact ⟨m ++ X,e,k+1,rfl,by go_num,by omega,by omega,HN2.out,HO.out,hbelx⟩
     | succ j=>
      have hMs:=HM.out.2
      have hjm:j<M.size:=by omega
      have eb:=byt_eq M j hjm
      have z1:((j+1:Nat):Int) - 1=(j:Int):=by omega
      have z2:(0:Int)≤(j:Int):=by omega
      have z3:(j:Int)<(M.size:Int):=by omega
      have HOX:=hide hownx
      have hnl:X.length+(m.length - (j+1))≤200:=by omega
      clear hMs
      rw [z1]
      go_wp2_with (at_builtin;refine wpList_append_lies _ rfl _ _ _ rfl w.heap.size 5 i0 _ 1 1 Tryz.underlying142 hi0 hz0 hz1 hz2 rfl (by omega) _ (X.length+(m.length - (j+1))) (bCells (X.reverse ++ (m.drop (j+1)).reverse)) rfl (HOX.out.alloc _) ⟨wr.heap.size,0,none⟩ 1 1 [.int .u8 (byt M j:Int)] rfl rfl (World.news_of_block (cs:=#[.int .u8 (byt M j:Int)]) (t:=5) (fr:=(0,0)) (heap_alloc_new wr _)) (by simp [Value.oneCell']) (by omega) (by unfold maxLen;omega) (by omega) (by simp;omega) (wr.heap.size+1) (by simp) ?_;intro g3 cap3 w3 hown3 hgrow hat hlt3)
      go_roundw
      case rel=>
       have hml2:j<m.length:=by omega
       have hb2:byt M j=(m[j]'hml2).toNat:=by
        unfold byt;rw [HM.out.1,List.getD_eq_getElem?_getD,List.getElem?_eq_getElem hml2];rfl
       have hsz3:=hgrow.size
       simp at hsz3
       refine ⟨j,by omega,by go_num,?_,?_,?_,?_,by omega⟩
       ·rw [List.drop_eq_getElem_cons hml2,List.reverse_cons,← List.append_assoc,bCells_app,show X.length+(m.length - j)=X.length+(m.length - (j+1))+1 by omega]
        have e1:bCells [m[j]'hml2]=[.int .u8 (byt M j:Int)]:=by rw [hb2];rfl
        rw [e1]
        exact hown3
       ·exact (hbelx.alloc hbelx.size _).grown hgrow (by simp;omega) (fun j hj=>ownBlock_ge HOX.out j hj)
       ·exact hgrow.cell (by rw [World.cell?_alloc_past _ _ _ hBlt];exact hcx) (fun h=>hne h.symm)
       ·intro h
        have h':g3=B:=by simpa [Value.ownBlock] using h
        rcases hat with hat | hat
        ·rw [h'] at hat;exact hne hat
        ·omega
      case measure=>simp [intOf]
end Go.Proofs.YtmndgoapkmhglabGreat
