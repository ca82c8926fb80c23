import Derived.Test.YtbmhafagdchjfaaParF
namespace Go.Proofs.Ytbmhafagdchjfaa
open Go.RowKit
attribute [local go_sem ↓] Go.wp_at_zero Go.wp_at_succ
attribute [local go_sem] Try.fieldTok0 Try.fieldTok1 Try.fieldTok2

set_option maxHeartbeats 2000000 in
set_option maxRecDepth 100000 in
theorem delay_any {ts : List Tk} (ht : TsOk ts) {f : Nat} (hE : ExprC ts f) (w : World) (X : Nat → Prop) (b : Nat) (p : PS) (n : Nd) (h : Par w X b ts p) (hw : p.Wf ts) (hd : p.depth + f = 16) (hdl : p.delays + 1 ≤ p.depth) :
    Calls Try.prog 100 #[.pointer (some ⟨b, 0, none⟩), n.val] w fun e w' => ResD w' X b ts p.delays e (delayF (exprF ts f) p n) ∧ Fr X w w' := by
  have HE := hide hE
  have HT := hide ht
  have hd16 := hw.depth
  have HW1 : Hid (({ p with delays := p.delays + 1 } : PS).Wf ts) := hide ⟨hw.next, hw.nodes, hw.decls, hdl, hw.depth⟩
  clear hE hw ht
  obtain ⟨vt, vd, vn, hp⟩ := h
  have hb : b < w.heap.size := hp.lt
  have c3 := hp.cell.2.2.2.1
  have f3 := hp.froz 3
  obtain ⟨hs1, hs2⟩ := hp.set (p' := { p with delays := p.delays + 1 }) 3 (.int .i64 ((p.delays : Int) + 1)) rfl rfl (by simp)
  have HP0 := hide hs1
  have HF0 := hide hs2
  clear hp hs1 hs2
  go_enter Try.func100, Try.ntmps100
  go_wp2_with fail
  obtain ⟨w0, hw0⟩ : ∃ w0, w0 = w.setCell ⟨b, 3, none⟩ (.int .i64 ((p.delays : Int) + 1)) := ⟨_, rfl⟩
  have hsz : w.heap.size = w0.heap.size := by rw [hw0]; simp
  rw [← hw0] at HP0 HF0
  rw [← hw0, hsz]
  have HXL0 := hide HP0.out.xlt
  clear hw0 c3 f3 hb hsz
  refine (HE.out _ (two X w0.heap.size) b { p with delays := p.delays + 1 } (Par.two ⟨_, _, _, HP0.out⟩ _ _) HW1.out hd).mono ?_
  rintro e w3 ⟨hr, hf⟩
  cases hx : exprF ts f { p with delays := p.delays + 1 } with
  | ok ap =>
    obtain ⟨r, p3⟩ := ap
    rw [hx] at hr
    obtain ⟨rfl, hp3⟩ := hr
    have hs := ((expr_ok HT.out f p.depth hd _ HW1.out rfl).1 _ _ hx).1
    have HDL : Hid (p3.delays = p.delays + 1) := hide hs.delays
    have HR : Hid (delayF (exprF ts f) p n = .ok ({ n with kind := 5, b := r }, { p3 with delays := p3.delays - 1 })) := hide (by unfold delayF; rw [hx])
    clear hx hs HE HT HW1
    obtain ⟨vt3, vd3, vn3, hv3⟩ := hp3
    have c3 := hv3.cell.2.2.2.1
    have f3 := hv3.froz 3
    have nb1 : b ≠ w0.heap.size := by rintro rfl; exact hv3.xb (.inr (.inl rfl))
    have nb2 : b ≠ w0.heap.size + 1 := by rintro rfl; exact hv3.xb (.inr (.inr rfl))
    have nb3 := nb1.symm
    have nb4 := nb2.symm
    have c3' : w3.cell? ⟨b, 3, none⟩ = some (.int .i64 ((p.delays : Int) + 1)) := by rw [c3, HDL.out]; rfl
    have hset := hv3.set (p' := { p3 with delays := p3.delays - 1 }) 3 (.int .i64 (p.delays : Int)) rfl rfl (by simp [HDL.out])
    have HP : Hid (Par (w3.setCell ⟨b, 3, none⟩ (.int .i64 (p.delays : Int))) (two X w0.heap.size) b ts { p3 with delays := p3.delays - 1 }) := hide ⟨_, _, _, hset.1⟩
    have HFS := hide hset.2
    clear hset hv3 c3
    obtain ⟨hb1, hb2⟩ := two_blocks hf
    have HFR := hide ((HF0.out.trans (fr_two HXL0.out hf)).trans (HFS.out.mono fun k hk => .inl hk))
    have HNX := hide (two_not HXL0.out)
    obtain ⟨⟨d0, d1, d2, d3, d4, d5, d6, d7, d8, d9, d10⟩, dF⟩ := row11 hb1
    obtain ⟨⟨r0, r1, r2, r3, r4, r5, r6, r7, r8, r9, r10⟩, rF⟩ := row11 hb2
    clear hb1 hb2 HFS hf
    have hN : two X w0.heap.size w0.heap.size := .inr (.inl rfl)
    have hN1 : two X w0.heap.size (w0.heap.size + 1) := .inr (.inr rfl)
    generalize w0.heap.size = N at *
    go_wp2
    refine bodyPost_ret (v := .tuple #[({ n with kind := 5, b := r } : Nd).val, .bool true]) (by simp [results, Try.results100, go_sem, *]) rfl ?_
    refine ⟨?_, ?_⟩
    · rw [HR.out]
      exact ⟨rfl, Par.less (((((((((((((HP.out.poke hN).poke hN).poke hN1).poke hN1).poke hN1).poke hN1).poke hN1).poke hN1).poke hN1).poke hN1).poke hN1).poke hN1).poke hN1) (fun k hk => .inl hk)⟩
    · exact (((((((((((((HFR.out.setCell HNX.out.1 _).setCell HNX.out.1 _).setCell HNX.out.2 _).setCell HNX.out.2 _).setCell HNX.out.2 _).setCell HNX.out.2 _).setCell HNX.out.2 _).setCell HNX.out.2 _).setCell HNX.out.2 _).setCell HNX.out.2 _).setCell HNX.out.2 _).setCell HNX.out.2 _).setCell HNX.out.2 _)
  | error k =>
    rw [hx] at hr
    obtain ⟨r, p3, rfl, hp3, hk1, hk2, hk3⟩ := hr
    have HDL : Hid (p3.delays = p.delays + 1) := hide hk3
    have HR : Hid (delayF (exprF ts f) p n = .error k) := hide (by unfold delayF; rw [hx])
    have HK := hide hk1
    have HK3 := hide hk3
    clear hx HE HT HW1 hk1 hk3
    obtain ⟨vt3, vd3, vn3, hv3⟩ := hp3
    have c3 := hv3.cell.2.2.2.1
    have f3 := hv3.froz 3
    have nb1 : b ≠ w0.heap.size := by rintro rfl; exact hv3.xb (.inr (.inl rfl))
    have nb2 : b ≠ w0.heap.size + 1 := by rintro rfl; exact hv3.xb (.inr (.inr rfl))
    have nb3 := nb1.symm
    have nb4 := nb2.symm
    have c3' : w3.cell? ⟨b, 3, none⟩ = some (.int .i64 ((p.delays : Int) + 1)) := by rw [c3, HDL.out]; rfl
    have hset := hv3.set (p' := { p3 with delays := p3.delays - 1 }) 3 (.int .i64 (p.delays : Int)) rfl rfl (by simp [HDL.out])
    have HP : Hid (Par (w3.setCell ⟨b, 3, none⟩ (.int .i64 (p.delays : Int))) (two X w0.heap.size) b ts { p3 with delays := p3.delays - 1 }) := hide ⟨_, _, _, hset.1⟩
    have HFS := hide hset.2
    clear hset hv3 c3
    obtain ⟨hb1, hb2⟩ := two_blocks hf
    have HFR := hide ((HF0.out.trans (fr_two HXL0.out hf)).trans (HFS.out.mono fun k hk => .inl hk))
    have HNX := hide (two_not HXL0.out)
    obtain ⟨⟨d0, d1, d2, d3, d4, d5, d6, d7, d8, d9, d10⟩, dF⟩ := row11 hb1
    obtain ⟨⟨r0, r1, r2, r3, r4, r5, r6, r7, r8, r9, r10⟩, rF⟩ := row11 hb2
    clear hb1 hb2 HFS hf
    have hN : two X w0.heap.size w0.heap.size := .inr (.inl rfl)
    have hN1 : two X w0.heap.size (w0.heap.size + 1) := .inr (.inr rfl)
    generalize w0.heap.size = N at *
    go_wp2
    refine bodyPost_ret (v := .tuple #[({ n with kind := 5, b := r } : Nd).val, .bool false]) (by simp [results, Try.results100, go_sem, *]) rfl ?_
    refine ⟨?_, ?_⟩
    · rw [HR.out]
      exact ⟨_, _, rfl, Par.less (((((((((((((HP.out.poke hN).poke hN).poke hN1).poke hN1).poke hN1).poke hN1).poke hN1).poke hN1).poke hN1).poke hN1).poke hN1).poke hN1).poke hN1) (fun k hk => .inl hk), HK.out, hk2, by simp [HK3.out]⟩
    · exact (((((((((((((HFR.out.setCell HNX.out.1 _).setCell HNX.out.1 _).setCell HNX.out.2 _).setCell HNX.out.2 _).setCell HNX.out.2 _).setCell HNX.out.2 _).setCell HNX.out.2 _).setCell HNX.out.2 _).setCell HNX.out.2 _).setCell HNX.out.2 _).setCell HNX.out.2 _).setCell HNX.out.2 _).setCell HNX.out.2 _)

end Go.Proofs.Ytbmhafagdchjfaa
