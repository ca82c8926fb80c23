import Derived.Laws.StructEq
import Derived.Test.YtmndgoapkmhglaaGreatM21CwG
import Derived.Test.YtmndgoapkmhglaaGreatM37OpenL
import Derived.Test.YtmndgoapkmhglaaGreatM39ExD
import Derived.Test.YtmndgoapkmhglaaGreatM40ExE
import Derived.Test.YtmndgoapkmhglaaGreatM41CdA
import Derived.Test.YtmndgoapkmhglaaGreatM43CdB
import Derived.Test.YtmndgoapkmhglaaGreatM45CdD
namespace Go.Proofs.YtmndgoapkmhglaaGreat
open Go.RowKit
attribute [local go_sem ↓] Go.wp_at_zero Go.wp_at_succ
structure Play (w wr:World) (q g cap:Nat) (ts:List Tk) (L:List Dl) (vE vA vI vQ vO vC vN vU:Value) (c:CdF) (vX:Value) (ins:List (List Int)) (vl:Value) (pl:Int) (n:Nat) (aR:Option Addr) (gR cR:Nat) (R:Nat→Nat):Prop where
 prog:RProg wr q g cap ts L vE vA vI vQ
 code:CodeAt wr vO vC vN vU c
 ls:LsAt wr vX ins
 at':wr.ownsRow w.heap.size 3 1 vl (atR ts L pl).length (pCells (atR ts L pl))
 mat:MatI wr gR (eqL L).length n R (sol ts L ins)
 adr:0<(eqL L).length→aR=some ⟨gR,0,none⟩
 box:wr.heap[w.heap.size]? = some (.cells #[vO,vC,vN,vU] 43)
 bel:Below w.heap.size w wr
theorem Play.below {w wr w':World}{q g cap:Nat}{ts:List Tk}{L:List Dl}{vE vA vI vQ vO vC vN vU:Value}{c:CdF}{vX:Value}{ins:List (List Int)}{vl:Value}{pl:Int}{n:Nat}{aR:Option Addr}{gR cR:Nat}{R:Nat→Nat}
  (h:Play w wr q g cap ts L vE vA vI vQ vO vC vN vU c vX ins vl pl n aR gR cR R) (hb:Below wr.heap.size wr w'):Play w w' q g cap ts L vE vA vI vQ vO vC vN vU c vX ins vl pl n aR gR cR R:=
 ⟨h.prog.below hb,h.code.below hb,h.ls.below hb,own_same h.at' (fun b e=>hb.block b (h.at'.lt b e).2),h.mat.below hb,h.adr,(hb.block _ (Array.getElem?_eq_some_iff.1 h.box).1).trans h.box,h.bel.trans (hb.mono h.bel.size)⟩
theorem op_cells {w:World}{v:Value}{ops:List OpF} (h:OpsAt w v ops):∃ A C,v = .slice A ops.length C∧ops.length≤4398046511104∧(0<ops.length→∃ b o,A=some ⟨b,o,none⟩∧b<w.heap.size∧∀ i (hi:i<ops.length),w.cell? ⟨b,o+i * 4,none⟩=some (.int .i64 ops[i].k)∧w.cell? ⟨b,o+i * 4+1,none⟩=some (.int .i64 ops[i].a)∧w.cell? ⟨b,o+i * 4+2,none⟩=some (.int .i64 ops[i].b)∧w.cell? ⟨b,o+i * 4+3,none⟩=some (.int .i64 ops[i].c)):=h
theorem op_same (w:World) (k a b c:Int):(binOp .neq 79 (.agg #[.int .i64 k,.int .i64 a,.int .i64 b,.int .i64 c]) (.agg #[.int .i64 k,.int .i64 a,.int .i64 b,.int .i64 c])).run Tryz.prog w = .ok (.bool false) w:=by
 have hu:Tryz.prog.underlying 79=some (.struct (Tryz.prog.fieldsOf 79)):=by kernel_rfl
 have hp:Tryz.prog.stoodInHeld 79=false:=by kernel_rfl
 have hf : (Tryz.prog.fieldsOf 79).toList.map (fun f => (decide (f.name = "_"), f.type, f.offset)) = [(false, 3, 0), (false, 3, 1), (false, 3, 2), (false, 3, 3)] := by kernel_rfl
 rw [run_neq_struct,run_equalIn_struct w 9999 _ _ _ hu hp]
 clear hu hp
 generalize (Tryz.prog.fieldsOf 79).toList=fs at *
 obtain ⟨f0,r0,rfl,e0,hf⟩:=List.map_eq_cons_iff.1 hf
 obtain ⟨f1,r1,rfl,e1,hf⟩:=List.map_eq_cons_iff.1 hf
 obtain ⟨f2,r2,rfl,e2,hf⟩:=List.map_eq_cons_iff.1 hf
 obtain ⟨f3,r3,rfl,e3,hf⟩:=List.map_eq_cons_iff.1 hf
 have hr:=List.map_eq_nil_iff.1 hf
 subst hr
 simp only [Prod.mk.injEq,decide_eq_false_iff_not] at e0 e1 e2 e3
 obtain ⟨a0,b0,c0⟩:=e0
 obtain ⟨a1,b1,c1⟩:=e1
 obtain ⟨a2,b2,c2⟩:=e2
 obtain ⟨a3,b3,c3⟩:=e3
 simp [Op.eqFields,a0,a1,a2,a3,b0,b1,b2,b3,c0,c1,c2,c3,go_sem]

end Go.Proofs.YtmndgoapkmhglaaGreat
namespace Go.Proofs.YtmndgoapkmhglaaGreat
open Go.RowKit

end Go.Proofs.YtmndgoapkmhglaaGreat
namespace Go.Proofs.YtmndgoapkmhglaaGreat
theorem held_of {s:ByteArray}{p:PS} (_hs:s.size≤1500) (hp:parseF s = .ok p) {L:List Dl} (hG:RGood s L):p.decls=declsD (toks s) L 0 0 0∧boundN p=(nodesD (toks s) L 0).map (bindF p.decls)∧Both2 (toks s) L p.decls (boundN p):=by
 obtain ⟨p',hp',h1,h2⟩:=hG.parse
 rw [hp] at hp'
 cases hp'
 have hb:boundN p=(nodesD (toks s) L 0).map (bindF p.decls):=by unfold boundN;rw [h2]
 refine ⟨h1,hb,?_⟩
 rw [hb,h1]
 exact both2 (toks_F s) (toks_end s) L hG.sp hG.names
theorem links_held {s:ByteArray}{p:PS} (hs:s.size≤1500) (hp:parseF s = .ok p) {L:List Dl} (hG:RGood s L):linksF p.decls (boundN p)=routesR (toks s) L:=by
 obtain ⟨h1,h2,hB⟩:=held_of hs hp hG
 exact links_eq (toks_F s) hB.N hB.sp hB.decl hB.dx (fun a d x hd hx hk=>by rw [h1] at hd;have:=declsD_num (toks s) L 0 0 0 a d x hd hx hk;rw [this,Nat.zero_add])
theorem text_le {s:ByteArray} (h:(textF s).1=0):s.size≤1500:=by
 by_cases hs:1500<s.size
 ·unfold textF at h;rw [if_pos hs] at h;cases h
 ·omega
end Go.Proofs.YtmndgoapkmhglaaGreat
