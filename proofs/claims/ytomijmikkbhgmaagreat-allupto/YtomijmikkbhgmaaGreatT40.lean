import Derived.Test.YtomijmikkbhgmaaGreatT38
import Derived.Test.YtomijmikkbhgmaaGreatT13
import Derived.Test.YtomijmikkbhgmaaGreatT39
import Derived.Deep.RegionHeld3
namespace Go.Proofs.YtomijmikkbhgmaaGreat
open Go.RowKit

set_option maxRecDepth 20000 in
set_option maxHeartbeats 8000000 in
theorem roomy_any (T : List (List Ins)) (fa : Bool) (c : List Atm) (vt vc : Value) (w : World) (h : TestAt w (.agg #[vt, .bool fa, vc]) T fa c vt vc) (hT : T.length ≤ 4000000) (hTl : ∀ l ∈ T, l.length ≤ 4000000) (hc : c.length ≤ 4000000) :
    Calls Tryz.prog 33 #[.agg #[vt, .bool fa, vc]] w fun e w' => ∃ vt' vc' vs, e = .returned (.agg #[vt', .bool fa, vc']) ∧ RmT w.heap.size w'.heap.size w' vt' vc' T c vs ∧ Below w.heap.size w w' := by
  have HCP := hid (fun (w' : World) (hb : Below w.heap.size w w') => copy_new T fa c _ vt vc w' (h.keep hb))
  obtain ⟨ht0, aot, bt, offt, capt, htv, hta, _, htc⟩ := h.ht.opened
  obtain ⟨hc0, aoc, bc, offc, capc, hsc⟩ := h.hc
  have hcv := hsc.hv
  subst htv hcv
  have HTC := hid htc
  have HTL := hid hTl
  obtain ⟨i5, hi5, hy0, hy1, hy2⟩ := info_parts Tryz.infoInstr
  have HI5 : Hid (Tryz.prog.info? 48 = some i5 ∧ i5.zero = some (.agg #[.int .i64 0, .int .i64 0, .int .i64 0, .int .i64 0, .int .i64 0]) ∧ i5.size = 5 ∧ i5.bytes = 40) := ⟨hi5, hy0, hy1, hy2⟩
  obtain ⟨i1, hi1, hx0, hx1, hx2⟩ := info_parts Tryz.infoInstrs
  have HI1 : Hid (Tryz.prog.info? 46 = some i1 ∧ i1.zero = some (.slice none 0 0) ∧ i1.size = 1 ∧ i1.bytes = 24) := ⟨hi1, hx0, hx1, hx2⟩
  obtain ⟨i3, hi3, hw0, hw1, hw2⟩ := info_parts Tryz.infoAtom
  have HI3 : Hid (Tryz.prog.info? 104 = some i3 ∧ i3.zero = some (.agg #[.int .i64 0, .int .i64 0, .int .i64 0]) ∧ i3.size = 3 ∧ i3.bytes = 24) := ⟨hi3, hw0, hw1, hw2⟩
  clear hi5 hy0 hy1 hy2 hi1 hx0 hx1 hx2 hi3 hw0 hw1 hw2 htc hTl h hsc
  go_enter Tryz.func33, Tryz.ntmps33
  go_wp2_with fail
  have hba := below_two w (.cells #[.slice aot T.length capt, .bool fa, .slice aoc c.length capc] 25) (.cells #[.slice none 0 0, .bool false, .slice none 0 0] 25)
  refine (HCP.out _ hba).mono ?_
  rintro e w2 ⟨vt', vc', rfl, ⟨_, vs, hcp⟩, hb2⟩
  simp only [World.size_alloc] at hcp hb2
  have hS2 : w.heap.size + 1 + 1 ≤ w2.heap.size := by have := hb2.size; simpa using this
  obtain ⟨aoV, capV, hfV, _⟩ := own_form hcp.own
  obtain ⟨aoA, capA, hfA, _⟩ := own_form hcp.aown
  subst hfV hfA
  have HR0 : Hid (RSt w (w2.alloc (.cells #[.slice aoV T.length capV, .bool fa, .slice aoA c.length capA] 25)) (.slice aot T.length capt) (.slice aoc c.length capc) fa w2.heap.size (.slice aoV T.length capV) (.slice aoA c.length capA) T c vs 0) := by
    have hal := below_alloc w2 (.cells #[.slice aoV T.length capV, .bool fa, .slice aoA c.length capA] 25)
    have hb3 := hb2.trans (hal.mono hS2)
    refine ⟨(hba.trans (hb2.mono (by omega))).trans (hal.mono (by omega)), ?_, ?_, heap_alloc_new _ _, by omega, (RmS.of hcp).other fun b hb _ => hal.block b hb, own_keep hcp.aown hal⟩
    · rw [hb3.block _ (by omega), Below.heap_alloc _ _ _ (by simp), heap_alloc_new]
    · rw [hb3.block _ (by omega)]
      have e : w.heap.size + 1 = (w.alloc (.cells #[.slice aot T.length capt, .bool fa, .slice aoc c.length capc] 25)).heap.size := by simp
      rw [e, heap_alloc_new]
  clear hcp hb2 hba HCP
  go_wp2_with fail
  generalize hCe : w2.heap.size = C at *
  clear hCe
  go_loopw [4, 5] (fun i _ wr => ∃ (k : Nat) (vs : List Value), k ≤ T.length ∧ i = .int .i64 k ∧ Hid (RSt w wr (.slice aot T.length capt) (.slice aoc c.length capc) fa C (.slice aoV T.length capV) (.slice aoA c.length capA) T c vs k)) (fun i _ _ => T.length - (intOf i).toNat)
  case atStart => exact ⟨0, vs, Nat.zero_le _, rfl, HR0.out⟩
  case round =>
    clear HR0
    obtain ⟨k, vs, hk, rfl, hR⟩ := hrel
    have t0 : wr.cell? ⟨w.heap.size, 0, none⟩ = some (.slice aot T.length capt) := by rw [cell_of_row _ _ _ _ _ _ hR.out.s0]; rfl
    have e0 : wr.cell? ⟨C, 0, none⟩ = some (.slice aoV T.length capV) := by rw [cell_of_row _ _ _ _ _ _ hR.out.cb]; rfl
    have hCw := hR.out.hC
    have hCl := heap_ltA hR.out.cb
    have hbw := hR.out.below
    by_cases hlt : k < T.length
    · obtain ⟨l, hl⟩ := get_of_lt hlt
      obtain rfl := hta (ne_nil hlt)
      obtain ⟨hbtl, ao1, cap1, q1, _⟩ := HTC.out k l hl
      have t1 := keep_cell hbw q1
      have hl4 := HTL.out l (List.mem_of_getElem? hl)
      obtain ⟨gV, capg, hgo⟩ : ∃ g capg, Value.slice aoV T.length capV = .slice (some ⟨g, 0, none⟩) T.length capg := by
        rcases hR.out.rm.own.2 with ⟨_, h0⟩ | ⟨g, cap, _, hv, _⟩
        · omega
        · exact ⟨g, cap, hv⟩
      simp only [Value.slice.injEq, true_and] at hgo
      obtain ⟨hgo1, hgo2⟩ := hgo
      subst hgo1 hgo2
      obtain ⟨u, hu, hown⟩ := hR.out.rm.todo k l (Nat.le_refl _) hl
      obtain ⟨ao2, cap2, hfu, _⟩ := own_form hown
      subst hfu
      have v0 : wr.cell? ⟨gV, k, none⟩ = some (.slice ao2 l.length cap2) := by rw [hR.out.rm.own.cellAt k (by omega)]; exact hu
      have v1 := hR.out.rm.own.frozenAt k
      have hkI : (k : Int) < (T.length : Int) := by omega
      have hVo := hR.out.rm.own
      have hgVl := (hVo.lt gV rfl).2
      have HV : Hid (∀ (w1 : World) (o : Obj), (wr.drew.alloc o).grownBy w1 (Value.slice ao2 l.length cap2).ownBlock → w1.cell? ⟨gV, k, none⟩ = some (.slice ao2 l.length cap2) ∧ w1.frozen? ⟨gV, k, none⟩ = false ∧ w1.cell? ⟨C, 0, none⟩ = some (.slice (some ⟨gV, 0, none⟩) T.length capV)) := fun w1 o hg => by
        have hgl := (hVo.lt gV rfl).2
        have hsame : w1.heap[gV]? = wr.heap[gV]? := by
          rw [hg.block gV (by simp; omega) (fun e => own_ne hVo hown (by decide) (b := gV) rfl e.symm), Below.heap_alloc _ _ _ (by simpa using hgl)]
          rfl
        have hsC : w1.heap[C]? = wr.heap[C]? := by
          rw [hg.block C (by simp; omega) (fun e => by obtain ⟨cur, q⟩ := own_ty hown e.symm; rw [hR.out.cb] at q; cases q), Below.heap_alloc _ _ _ (by simpa using hCl)]
          rfl
        exact ⟨cell_heap hsame v0, (World.frozen?_of_block (w := wr) hsame).trans v1, cell_heap hsC e0⟩
      have HCg : Hid (C ≠ gV) := fun e => by
        obtain ⟨cur, q⟩ := own_ty hVo (b := gV) rfl
        rw [← e, hR.out.cb] at q
        cases q
      have HST : Hid (∀ (w1 : World) (g1 cap3 : Nat) (o : Obj), w1.ownsRow (w.heap.size + 2) 48 5 (.slice (some ⟨g1, 0, none⟩) (l.length + 1) cap3) (l.length + 1) (l.flatMap insV ++ insM) → (wr.alloc o).grownBy w1 (Value.slice ao2 l.length cap2).ownBlock → ((Value.slice ao2 l.length cap2).ownBlock = some g1 ∨ wr.heap.size + 1 ≤ g1) → RSt w ((w1.setCell ⟨gV, k, none⟩ (.slice (some ⟨g1, 0, none⟩) (l.length + 1) cap3)).setCell ⟨gV, k, none⟩ (.slice (some ⟨g1, 0, none⟩) l.length cap3)) (.slice (some ⟨bt, offt, none⟩) T.length capt) (.slice aoc c.length capc) fa C (.slice (some ⟨gV, 0, none⟩) T.length capV) (.slice aoA c.length capA) T c (vs.set k (.slice (some ⟨g1, 0, none⟩) l.length cap3)) (k + 1)) := fun w1 g1 cap3 o ho hg hap => by
        have hst := hR.out.rm.step hl hu ho hg hap
        have hsz : wr.heap.size + 1 ≤ w1.heap.size := by have := hg.size; simpa using this
        have hky : ∀ b, b < wr.heap.size → (∀ cur, wr.heap[b]? ≠ some (.cells cur 48 (0, 0))) → b ≠ gV → ((w1.setCell ⟨gV, k, none⟩ (.slice (some ⟨g1, 0, none⟩) (l.length + 1) cap3)).setCell ⟨gV, k, none⟩ (.slice (some ⟨g1, 0, none⟩) l.length cap3)).heap[b]? = wr.heap[b]? := fun b hb hbt hbV => by
          rw [Below.heap_setCell _ _ _ _ hbV, Below.heap_setCell _ _ _ _ hbV, hg.block b (by simp; omega) (fun e => by obtain ⟨cur, q⟩ := own_ty hown e.symm; exact hbt cur q), Below.heap_alloc _ _ _ hb]
        have hVB := (hVo.lt gV rfl).1
        have hlow : ∀ b, b < w.heap.size + 2 → b < wr.heap.size → ((w1.setCell ⟨gV, k, none⟩ (.slice (some ⟨g1, 0, none⟩) (l.length + 1) cap3)).setCell ⟨gV, k, none⟩ (.slice (some ⟨g1, 0, none⟩) l.length cap3)).heap[b]? = wr.heap[b]? := fun b hb hb2 => by
          rw [Below.heap_setCell _ _ _ _ (show b ≠ gV by omega), Below.heap_setCell _ _ _ _ (show b ≠ gV by omega), hg.block b (by simp; omega) (fun e => by have := (hown.lt b e.symm).1; omega), Below.heap_alloc _ _ _ hb2]
        have hws := hbw.size
        refine ⟨⟨hg.os.trans hbw.os, hg.tape.trans hbw.tape, hg.output.trans hbw.output, by simp [World.setCell]; omega, fun b hb => (hlow b (by omega) (by omega)).trans (hbw.block b hb)⟩, (hlow _ (by omega) (by omega)).trans hR.out.s0, (hlow _ (by omega) (by omega)).trans hR.out.s1, (hky C hCl (fun cur e => by rw [hR.out.cb] at e; cases e) HCg.out).trans hR.out.cb, hCw, hst, own_other hR.out.atm fun b hb => ?_⟩
        obtain ⟨cur, q⟩ := own_ty hR.out.atm hb
        obtain ⟨curV, qV⟩ := own_ty hVo (b := gV) rfl
        exact hky b (heap_ltA q) (fun cur' e => by rw [q] at e; cases e) fun e => by rw [e, qV] at q; cases q
      have HOW := hid hown
      have HUU := hid hu
      clear q1 hown hu hVo
      go_upto_region 6 with fail
      go_cut [5] from 8 to 43 (fun n wc => n = .int .i64 l.length ∧ ∃ (g1 cap3 : Nat), cap3 ≤ 9223372036854775807 ∧ l.length + 1 ≤ cap3 ∧ wc.cell? ⟨C, 0, none⟩ = some (.slice (some ⟨gV, 0, none⟩) T.length capV) ∧ wc.cell? ⟨gV, k, none⟩ = some (.slice (some ⟨g1, 0, none⟩) (l.length + 1) cap3) ∧ wc.frozen? ⟨gV, k, none⟩ = false ∧ Hid (RSt w (wc.setCell ⟨gV, k, none⟩ (.slice (some ⟨g1, 0, none⟩) l.length cap3)) (.slice (some ⟨bt, offt, none⟩) T.length capt) (.slice aoc c.length capc) fa C (.slice (some ⟨gV, 0, none⟩) T.length capV) (.slice aoA c.length capA) T c (vs.set k (.slice (some ⟨g1, 0, none⟩) l.length cap3)) (k + 1)))
      case first =>
        go_region_law (refine step_append_new _ rfl (.tmp 28) (.tmp 30) 46 rfl (w.heap.size + 2) 48 i5 (.agg #[.int .i64 0, .int .i64 0, .int .i64 0, .int .i64 0, .int .i64 0]) 5 40 Tryz.underlying46 HI5.out.1 HI5.out.2.1 HI5.out.2.2.1 HI5.out.2.2.2 rfl (by decide) (.slice ao2 l.length cap2) l.length (l.flatMap insV) (by simp [Act.eval]) (HOW.out.drew.alloc _) (some ⟨wr.heap.size, 0, none⟩) 1 1 insM (by simp [Act.eval]) (fun h => by cases h) rfl (fun ad had => by cases had; exact new_many rfl) (by simp [insM, Value.oneCell']) (by unfold maxLen; omega) (by omega) (by simp; omega) ?_; intro u1 w1 hown1 hgrow1 hap1; obtain ⟨g1, cap3, hf1, hnc1, hcm1⟩ := own_someW hown1; subst hf1; obtain ⟨v2, v3, v4⟩ := HV.out w1 _ hgrow1)
        all_goals
          have hK := HST.out w1 g1 cap3 _ hown1 ⟨hgrow1.os, hgrow1.tape, hgrow1.output, hgrow1.size, hgrow1.block⟩ (by have := hap1 g1 rfl; simpa using this)
          have HK := hid hK
          clear hK hown1 hgrow1 hap1
          have hCg : C ≠ gV := HCg.out
          go_wp2_with fail
          go_meet
          case rel => exact ⟨rfl, g1, cap3, hcm1, hnc1, by simp [go_sem, v4], by simp [go_sem, v2], by simp [go_sem, v3], HK.out⟩
      case rest =>
        obtain ⟨rfl, g1, cap3, hcm1, hnc1, d0, d1, d2, HK⟩ := hcut
        go_upto_region 7 with fail
        go_region
        all_goals
          go_wp2_with fail
          go_roundw
          case measure => simp [intOf]; omega
          case rel => exact ⟨k + 1, _, by omega, by go_num, HK.out.drew⟩
    · have hkT : k = T.length := by omega
      have hkI : (T.length : Int) ≤ (k : Int) := by omega
      subst hkT
      have HR := hR
      have hS1l := heap_ltA hR.out.s1
      have hVC : ∀ b, (Value.slice aoV T.length capV).ownBlock = some b → b ≠ C ∧ w.heap.size + 2 ≤ b := fun b hb => ⟨(fun e => by obtain ⟨cur, q⟩ := own_ty hR.out.rm.own hb; rw [e, hR.out.cb] at q; cases q), (hR.out.rm.own.lt b hb).1⟩
      have HOV := hid hR.out.rm.own
      have HCS : Hid (∀ (w8 : World) (o2 : Obj), ((wr.alloc (.cells #[.int .i64 (-1000), .int .i64 0, .int .i64 0, .int .i64 0, .int .i64 0] 48)).alloc o2).grownBy w8 (Value.slice aoV T.length capV).ownBlock → wr.heap.size + 2 ≤ w8.heap.size ∧ w8.heap[C]? = wr.heap[C]? ∧ w8.heap[w.heap.size]? = wr.heap[w.heap.size]? ∧ w8.heap[w.heap.size + 1]? = wr.heap[w.heap.size + 1]? ∧ w8.ownsRow (w.heap.size + 2) 104 3 (.slice aoA c.length capA) c.length (c.flatMap atmV)) := fun w8 o2 hg => by
        have hk : ∀ b, b < wr.heap.size → (Value.slice aoV T.length capV).ownBlock ≠ some b → w8.heap[b]? = wr.heap[b]? := fun b hb hne => by
          rw [hg.block b (by simp; omega) (fun e => hne e.symm), Below.heap_alloc _ _ _ (by simp; omega), Below.heap_alloc _ _ _ hb]
        refine ⟨by have := hg.size; simpa using this, hk C hCl (fun e => (hVC C e).1 rfl), hk _ (by omega) (fun e => by have := (hVC _ e).2; omega), hk _ hS1l (fun e => by have := (hVC _ e).2; omega), own_other hR.out.atm fun b hb => ?_⟩
        obtain ⟨cur, q⟩ := own_ty hR.out.atm hb
        exact hk b (heap_ltA q) fun e => by obtain ⟨cur', q'⟩ := own_ty hR.out.rm.own e; rw [q] at q'; cases q'
      have HSB : Hid (wr.heap[w.heap.size]? = some (.cells #[.slice aot T.length capt, .bool fa, .slice aoc c.length capc] 25 (0, 0)) ∧ wr.heap[w.heap.size + 1]? = some (.cells #[.slice none 0 0, .bool false, .slice none 0 0] 25 (0, 0)) ∧ wr.heap[C]? = some (.cells #[.slice aoV T.length capV, .bool fa, .slice aoA c.length capA] 25 (0, 0))) := ⟨hR.out.s0, hR.out.s1, hR.out.cb⟩
      clear hR hVC HTC HTL
      go_wp2_with (at_builtin; refine append_new _ rfl _ _ 22 rfl (w.heap.size + 2) 46 i1 (.slice none 0 0) 1 24 Tryz.underlying22 HI1.out.1 HI1.out.2.1 HI1.out.2.2.1 HI1.out.2.2.2 rfl (by decide) (.slice aoV T.length capV) T.length vs rfl ((HOV.out.alloc _).alloc _) (some ⟨wr.heap.size + 1, 0, none⟩) 1 1 [.slice (some ⟨wr.heap.size, 0, none⟩) 1 1] rfl (fun h => by cases h) rfl (fun ad had => by cases had; exact new_one (W := wr.alloc (.cells #[.int .i64 (-1000), .int .i64 0, .int .i64 0, .int .i64 0, .int .i64 0] 48)) (by simp)) (by simp [Value.oneCell']) (by unfold maxLen; omega) (by omega) (by simp; omega) ?_)
      intro V8 w8 hown8 hgrow8 hap8
      obtain ⟨g8, cap8, hf8, hnc8, hcm8⟩ := own_someW hown8
      subst hf8
      obtain ⟨hs8, kC, kS0, kS1, hOA⟩ := HCS.out w8 _ hgrow8
      have HO8 := hid hown8
      have HG8 := hid hgrow8
      have p0 : w8.cell? ⟨C, 0, none⟩ = some (.slice aoV T.length capV) := by rw [cell_of_row _ _ _ _ _ _ (kC.trans HSB.out.2.2)]; rfl
      have p1 : w8.cell? ⟨C, 1, none⟩ = some (.bool fa) := by rw [cell_of_row _ _ _ _ _ _ (kC.trans HSB.out.2.2)]; rfl
      have p2 : w8.cell? ⟨C, 2, none⟩ = some (.slice aoA c.length capA) := by rw [cell_of_row _ _ _ _ _ _ (kC.trans HSB.out.2.2)]; rfl
      have p3 : w8.frozen? ⟨C, 0, none⟩ = false := frozen_of_row _ _ _ _ _ (kC.trans HSB.out.2.2)
      have p4 : w8.cell? ⟨w.heap.size, 0, none⟩ = some (.slice aot T.length capt) := by rw [cell_of_row _ _ _ _ _ _ (kS0.trans HSB.out.1)]; rfl
      have hCne : C ≠ w.heap.size := by omega
      have hCne1 : C ≠ w.heap.size + 1 := by omega
      have HOA : Hid (((w8.setCell ⟨C, 0, none⟩ (.slice (some ⟨g8, 0, none⟩) (T.length + 1) cap8)).setCell ⟨C, 0, none⟩ (.slice (some ⟨g8, 0, none⟩) T.length cap8)).ownsRow (w.heap.size + 2) 104 3 (.slice aoA c.length capA) c.length (c.flatMap atmV)) := own_other hOA fun b hb => by
        obtain ⟨cur, q⟩ := own_ty hOA hb
        have hbC : b ≠ C := fun e => by rw [e, kC, HSB.out.2.2] at q; cases q
        rw [Below.heap_setCell _ _ _ _ hbC, Below.heap_setCell _ _ _ _ hbC]
      clear hown8 hgrow8 hap8 hOA t0 e0
      go_wp2_with (at_builtin; refine append_new _ rfl _ _ 23 rfl (w.heap.size + 2) 104 i3 (.agg #[.int .i64 0, .int .i64 0, .int .i64 0]) 3 24 Tryz.underlying23 HI3.out.1 HI3.out.2.1 HI3.out.2.2.1 HI3.out.2.2.2 rfl (by decide) (.slice aoA c.length capA) c.length (c.flatMap atmV) rfl (HOA.out.alloc _) (some ⟨w8.heap.size, 0, none⟩) 1 1 atmM rfl (fun h => by cases h) rfl (fun ad had => by cases had; exact new_many (by simp [World.setCell])) (by simp [atmM, Value.oneCell']) (by unfold maxLen; omega) (by omega) (by simp [World.setCell]; omega) ?_)
      intro V9 w9 hown9 hgrow9 hap9
      obtain ⟨ga, capa, hf9, hnc9, hcm9⟩ := own_someW hown9
      subst hf9
      have hs9 : w8.heap.size + 1 ≤ w9.heap.size := by have := hgrow9.size; simpa [World.setCell] using this
      have hk9 : ∀ b, b < w8.heap.size → (∀ cur, w8.heap[b]? ≠ some (.cells cur 104 (0, 0))) → w9.heap[b]? = ((w8.setCell ⟨C, 0, none⟩ (.slice (some ⟨g8, 0, none⟩) (T.length + 1) cap8)).setCell ⟨C, 0, none⟩ (.slice (some ⟨g8, 0, none⟩) T.length cap8)).heap[b]? := fun b hb hbt => by
        rw [hgrow9.block b (by simp [World.setCell]; omega) (fun e => ?_), Below.heap_alloc _ _ _ (by simpa [World.setCell] using hb)]
        obtain ⟨cur, q⟩ := own_ty HOA.out e.symm
        by_cases hbC : b = C
        · rw [hbC, heap_setCell_same _ _ _ _ _ _ (heap_setCell_same _ _ _ _ _ _ (kC.trans HSB.out.2.2))] at q; cases q
        · rw [Below.heap_setCell _ _ _ _ hbC, Below.heap_setCell _ _ _ _ hbC] at q; exact hbt cur q
      have hC9 : w9.heap[C]? = some (.cells #[.slice (some ⟨g8, 0, none⟩) T.length cap8, .bool fa, .slice aoA c.length capA] 25 (0, 0)) := by
        rw [hk9 C (by omega) (fun cur q => by rw [kC, HSB.out.2.2] at q; cases q), heap_setCell_same _ _ _ _ _ _ (heap_setCell_same _ _ _ _ _ _ (kC.trans HSB.out.2.2))]
        rfl
      have hS90 : w9.heap[w.heap.size]? = some (.cells #[.slice aot T.length capt, .bool fa, .slice aoc c.length capc] 25 (0, 0)) := by
        rw [hk9 _ (by omega) (fun cur q => by rw [kS0, HSB.out.1] at q; cases q), Below.heap_setCell _ _ _ _ (show w.heap.size ≠ C by omega), Below.heap_setCell _ _ _ _ (show w.heap.size ≠ C by omega), kS0, HSB.out.1]
      have hS91 : w9.heap[w.heap.size + 1]? = some (.cells #[.slice none 0 0, .bool false, .slice none 0 0] 25 (0, 0)) := by
        rw [hk9 _ (by omega) (fun cur q => by rw [kS1, HSB.out.2.1] at q; cases q), Below.heap_setCell _ _ _ _ (show w.heap.size + 1 ≠ C by omega), Below.heap_setCell _ _ _ _ (show w.heap.size + 1 ≠ C by omega), kS1, HSB.out.2.1]
      have HFN : Hid (∀ wf : World, wf.os = w9.os → wf.tape = w9.tape → wf.output = w9.output → wf.heap.size = w9.heap.size → (∀ b, b ≠ C → b ≠ w.heap.size + 1 → wf.heap[b]? = w9.heap[b]?) → RmT w.heap.size wf.heap.size wf (.slice (some ⟨g8, 0, none⟩) T.length cap8) (.slice (some ⟨ga, 0, none⟩) c.length capa) T c vs ∧ Below w.heap.size w wf) := fun wf f1 f2 f3 f4 f5 => HR.out.fin HO8.out HG8.out hown9 hgrow9 f1 f2 f3 f4 f5
      clear p0 p1 p2 p3 p4
      have p0 : w9.cell? ⟨C, 0, none⟩ = some (.slice (some ⟨g8, 0, none⟩) T.length cap8) := by rw [cell_of_row _ _ _ _ _ _ hC9]; rfl
      have p1 : w9.cell? ⟨C, 1, none⟩ = some (.bool fa) := by rw [cell_of_row _ _ _ _ _ _ hC9]; rfl
      have p2 : w9.cell? ⟨C, 2, none⟩ = some (.slice aoA c.length capA) := by rw [cell_of_row _ _ _ _ _ _ hC9]; rfl
      have p3 : w9.frozen? ⟨C, 2, none⟩ = false := frozen_of_row _ _ _ _ _ hC9
      have p4 : w9.cell? ⟨w.heap.size, 2, none⟩ = some (.slice aoc c.length capc) := by rw [cell_of_row _ _ _ _ _ _ hS90]; rfl
      have r0 : w9.cell? ⟨w.heap.size + 1, 0, none⟩ = some (.slice none 0 0) := by rw [cell_of_row _ _ _ _ _ _ hS91]; rfl
      have r1 : w9.cell? ⟨w.heap.size + 1, 1, none⟩ = some (.bool false) := by rw [cell_of_row _ _ _ _ _ _ hS91]; rfl
      have r2 : w9.cell? ⟨w.heap.size + 1, 2, none⟩ = some (.slice none 0 0) := by rw [cell_of_row _ _ _ _ _ _ hS91]; rfl
      have r3 : w9.frozen? ⟨w.heap.size + 1, 0, none⟩ = false := frozen_of_row _ _ _ _ _ hS91
      have r4 : w9.frozen? ⟨w.heap.size + 1, 1, none⟩ = false := frozen_of_row _ _ _ _ _ hS91
      have r5 : w9.frozen? ⟨w.heap.size + 1, 2, none⟩ = false := frozen_of_row _ _ _ _ _ hS91
      clear hown9 hgrow9 hap9 HOA HO8 HG8 HR HSB hk9 kC kS0 kS1 hC9 hS90 hS91 HCS HOV
      go_wp2_with fail
      obtain ⟨hF1, hF2⟩ := HFN.out (((((w9.setCell ⟨C, 2, none⟩ (.slice (some ⟨ga, 0, none⟩) (c.length + 1) capa)).setCell ⟨C, 2, none⟩ (.slice (some ⟨ga, 0, none⟩) c.length capa)).setCell ⟨w.heap.size + 1, 0, none⟩ (.slice (some ⟨g8, 0, none⟩) T.length cap8)).setCell ⟨w.heap.size + 1, 1, none⟩ (.bool fa)).setCell ⟨w.heap.size + 1, 2, none⟩ (.slice (some ⟨ga, 0, none⟩) c.length capa)) rfl rfl rfl (by simp [World.setCell]) (fun b h1 h2 => by rw [Below.heap_setCell _ _ _ _ h2, Below.heap_setCell _ _ _ _ h2, Below.heap_setCell _ _ _ _ h2, Below.heap_setCell _ _ _ _ h1, Below.heap_setCell _ _ _ _ h1])
      exact bodyPost_ret (v := .agg #[.slice (some ⟨g8, 0, none⟩) T.length cap8, .bool fa, .slice (some ⟨ga, 0, none⟩) c.length capa]) (by simp [results, Tryz.results33, go_sem, *]) rfl ⟨_, _, vs, rfl, hF1, hF2⟩

end Go.Proofs.YtomijmikkbhgmaaGreat

namespace Go.Proofs.YtomijmikkbhgmaaGreat
open Go.RowKit

theorem RmT.keep {B H : Nat} {w w' : World} {vt vc : Value} {T : List (List Ins)} {c : List Atm} {vs : List Value} (h : RmT B H w vt vc T c vs) (hs : ∀ b, B ≤ b → b < H → w'.heap[b]? = w.heap[b]?) : RmT B H w' vt vc T c vs := by
  obtain ⟨g, cap, gz, h1, h2, h3, h4, h5, h6⟩ := h.thr
  refine ⟨⟨g, cap, gz, h1, own_other h2 fun b hb => ?_, (hs gz h4 h5).trans h3, h4, h5, h6⟩, fun j l hl => ?_, h.len, h.atm.other fun b hb => hs b (h.atm.lt hb).1 (h.ah b hb), h.ah⟩
  · have e : g = b := by simpa [Value.ownBlock] using hb
    subst e
    exact hs g (h2.lt g rfl).1 h6
  · obtain ⟨u, q1, q2, q3⟩ := h.rows j l hl
    exact ⟨u, q1, q2.other fun b hb => hs b (q2.lt hb).1 (q3 b hb), q3⟩

/-- So it is the same test. -/
theorem RmT.test {B H : Nat} {w : World} {vt vc : Value} {T : List (List Ins)} {c : List Atm} {vs : List Value} (h : RmT B H w vt vc T c vs) (fa : Bool) (hT : T.length ≤ 4000000) (hTl : ∀ l ∈ T, l.length ≤ 4000000) (hc : c.length ≤ 4000000) : TestAt w (.agg #[vt, .bool fa, vc]) T fa c vt vc := by
  obtain ⟨g, cap, gz, h1, h2, _⟩ := h.thr
  obtain ⟨ga, capa, h4, h5⟩ := h.atm
  refine ⟨rfl, ⟨by omega, some ⟨g, 0, none⟩, g, 0, cap, h1, fun _ => rfl, fun q => (by simp at q), fun k l hl => ?_⟩, ⟨by omega, some ⟨ga, 0, none⟩, ga, 0, capa, h4, fun _ => rfl, fun q => (by simp at q), fun k x hx => ?_⟩⟩
  · have hkl := (List.getElem?_eq_some_iff.1 hl).1
    obtain ⟨u, q1, ⟨gu, capu, q2, q3⟩, _⟩ := h.rows k l hl
    have hl4 := hTl l (List.mem_of_getElem? hl)
    refine ⟨u, ?_, by omega, some ⟨gu, 0, none⟩, gu, 0, capu, q2, fun _ => rfl, fun q => (by simp at q), fun j x hx => ?_⟩
    · rw [Nat.mul_one, Nat.zero_add, h2.cellAt k (by omega), List.getElem?_append_left (by have := h.len; omega)]
      exact q1
    · rw [Nat.zero_add]
      exact ⟨WidG.cells q3 (fun _ => rfl) rfl hx (i := 0) (by omega), WidG.cells q3 (fun _ => rfl) rfl hx (i := 1) (by omega), WidG.cells q3 (fun _ => rfl) rfl hx (i := 2) (by omega), WidG.cells q3 (fun _ => rfl) rfl hx (i := 3) (by omega), WidG.cells q3 (fun _ => rfl) rfl hx (i := 4) (by omega)⟩
  · rw [Nat.zero_add]
    exact ⟨WidG.cells h5 (fun _ => rfl) rfl hx (i := 0) (by omega), WidG.cells h5 (fun _ => rfl) rfl hx (i := 1) (by omega), WidG.cells h5 (fun _ => rfl) rfl hx (i := 2) (by omega)⟩

set_option maxRecDepth 20000 in
set_option maxHeartbeats 8000000 in
theorem keptL_any (B H : Nat) (T : List (List Ins)) (fa : Bool) (c : List Atm) (hT : T.length ≤ 4000000) (hTl : ∀ l ∈ T, l.length ≤ 4000000) (hc : c.length ≤ 4000000) (ut uc vt vc : Value) (vs : List Value) (w : World) (h : RmT B H w ut uc T c vs) (ht : TestAt w (.agg #[vt, .bool fa, vc]) T fa c vt vc) :
    Calls Tryz.prog 36 #[.agg #[ut, .bool fa, uc], .agg #[vt, .bool fa, vc]] w fun e w' => e = .returned (.bool true) ∧ Below w.heap.size w w' := by
  obtain ⟨g, cap, gz, hu1, hu2, hu3, _⟩ := h.thr
  obtain ⟨ga, capa, hu4, hu5⟩ := h.atm
  obtain ⟨_, aot, bt, offt, capt, htv, hta, _, htc⟩ := ht.ht.opened
  obtain ⟨_, aoc, bc, offc, capc, hsc⟩ := ht.hc
  have hcv := hsc.hv
  have hca := hsc.ha
  subst hu1 hu4 htv hcv
  obtain ⟨hnc, hcm⟩ := own_room hu2
  obtain ⟨hna, hca2⟩ := own_room hu5
  have hvl := h.len
  have HRW : Hid (∀ k l, T[k]? = some l → ∃ gu capu ao1 cap1, w.cell? ⟨g, k, none⟩ = some (.slice (some ⟨gu, 0, none⟩) l.length capu) ∧ w.cell? ⟨bt, offt + k, none⟩ = some (.slice ao1 l.length cap1) ∧ ∀ w', Below w.heap.size w w' → Calls Tryz.prog 71 #[.slice (some ⟨gu, 0, none⟩) l.length capu, .slice ao1 l.length cap1] w' fun e w'' => e = .returned (.bool true) ∧ Below w'.heap.size w' w'') := fun k l hl => by
    have hkl := (List.getElem?_eq_some_iff.1 hl).1
    obtain ⟨u, q1, q2, _⟩ := h.rows k l hl
    obtain ⟨_, ao1, cap1, r1, r2⟩ := htc k l hl
    obtain ⟨gu, capu, e, q3⟩ := id q2
    subst e
    refine ⟨gu, capu, ao1, cap1, ?_, r1, fun w' hb => codeKept_any B l (hTl l (List.mem_of_getElem? hl)) _ _ w' (q2.other fun b hb' => hb.block b (q2.lt hb').2) (r2.keep hb)⟩
    rw [hu2.cellAt k (by omega), List.getElem?_append_left (by omega)]
    exact q1
  have cz : w.cell? ⟨g, T.length, none⟩ = some (.slice (some ⟨gz, 0, none⟩) 1 1) := by
    rw [hu2.cellAt _ (by omega), List.getElem?_append_right (by omega), show T.length - vs.length = 0 by omega]
    rfl
  have cz0 : w.cell? ⟨gz, 0, none⟩ = some (.int .i64 (-1000)) := by rw [cell_of_row _ _ _ _ _ _ hu3]; rfl
  have HA : Hid (∀ k x, c[k]? = some x → AtmC w bc (offc + k * 3) x ∧ w.cell? ⟨ga, k * 3, none⟩ = some (.int .i64 x.thread) ∧ w.cell? ⟨ga, k * 3 + 1, none⟩ = some (.int .i64 x.at') ∧ w.cell? ⟨ga, k * 3 + 2, none⟩ = some (.int .i64 x.val)) := fun k x hx => ⟨hsc.hc k x hx, WidG.cells hu5 (fun _ => rfl) rfl hx (i := 0) (by omega), WidG.cells hu5 (fun _ => rfl) rfl hx (i := 1) (by omega), WidG.cells hu5 (fun _ => rfl) rfl hx (i := 2) (by omega)⟩
  have m0 : w.cell? ⟨ga, c.length * 3, none⟩ = some (.int .i64 0) := WidG.mark hu5 (fun _ => rfl) rfl (i := 0) (by omega)
  have m1 : w.cell? ⟨ga, c.length * 3 + 1, none⟩ = some (.int .i64 (-1000)) := WidG.mark hu5 (fun _ => rfl) rfl (i := 1) (by omega)
  have m2 : w.cell? ⟨ga, c.length * 3 + 2, none⟩ = some (.int .i64 0) := WidG.mark hu5 (fun _ => rfl) rfl (i := 2) (by omega)
  clear h ht hsc hu2 hu3 hu5 hTl htc
  go_enter Tryz.func36, Tryz.ntmps36
  go_wp2_with fail
  have hba := below_two w (.cells #[.slice (some ⟨g, 0, none⟩) T.length cap, .bool fa, .slice (some ⟨ga, 0, none⟩) c.length capa] 25) (.cells #[.slice aot T.length capt, .bool fa, .slice aoc c.length capc] 25)
  have HBX : Hid (∀ w', Below (w.heap.size + 1 + 1) ((w.alloc (.cells #[.slice (some ⟨g, 0, none⟩) T.length cap, .bool fa, .slice (some ⟨ga, 0, none⟩) c.length capa] 25)).alloc (.cells #[.slice aot T.length capt, .bool fa, .slice aoc c.length capc] 25)) w' → w'.cell? ⟨w.heap.size, 2, none⟩ = some (.slice (some ⟨ga, 0, none⟩) c.length capa) ∧ w'.cell? ⟨w.heap.size + 1, 0, none⟩ = some (.slice aot T.length capt) ∧ w'.cell? ⟨w.heap.size + 1, 2, none⟩ = some (.slice aoc c.length capc)) := fun w' hb => by
    have h1 := hb.cell (p := ⟨w.heap.size, 2, none⟩) (by simp; omega)
    have h2 := hb.cell (p := ⟨w.heap.size + 1, 0, none⟩) (by simp)
    have h3 := hb.cell (p := ⟨w.heap.size + 1, 2, none⟩) (by simp)
    exact ⟨h1.trans (by simp), h2.trans (by simp), h3.trans (by simp)⟩
  have hsW : ((w.alloc (.cells #[.slice (some ⟨g, 0, none⟩) T.length cap, .bool fa, .slice (some ⟨ga, 0, none⟩) c.length capa] 25)).alloc (.cells #[.slice aot T.length capt, .bool fa, .slice aoc c.length capc] 25)).heap.size = w.heap.size + 1 + 1 := by simp
  generalize (w.alloc (.cells #[.slice (some ⟨g, 0, none⟩) T.length cap, .bool fa, .slice (some ⟨ga, 0, none⟩) c.length capa] 25)).alloc (.cells #[.slice aot T.length capt, .bool fa, .slice aoc c.length capc] 25) = w2 at *
  rw [← hsW] at HBX
  clear hsW
  go_loopw [6, 7] (fun i _ wr => ∃ k : Nat, k ≤ T.length ∧ i = .int .i64 k ∧ Below w2.heap.size w2 wr) (fun i _ _ => T.length - (intOf i).toNat)
  case atStart => exact ⟨0, Nat.zero_le _, rfl, Below.refl _ _⟩
  case round =>
    obtain ⟨k, hk, rfl, hb⟩ := hrel
    obtain ⟨y0, y1, y2⟩ := HBX.out wr hb
    have hbw := below_more hba hb
    by_cases hlt : k < T.length
    · obtain ⟨l, hl⟩ := get_of_lt hlt
      obtain rfl := hta (ne_nil hlt)
      obtain ⟨gu, capu, ao1, cap1, q1, q2, q3⟩ := HRW.out k l hl
      have HST : Hid (∀ w', Below wr.heap.size wr w' → Calls Tryz.prog 71 #[.slice (some ⟨gu, 0, none⟩) l.length capu, .slice ao1 l.length cap1] w' fun e w'' => e = .returned (.bool true) ∧ Below w'.heap.size w' w'') := fun w' hb' => q3 w' (below_more hbw hb')
      have g0 := grown_cell y1
      have g1 := grown_cell (keep_cell hbw q1)
      have g2 := grown_cell (keep_cell hbw q2)
      have hnw := grw_some wr
      have hkI : (k : Int) < (T.length : Int) := by omega
      have hkJ : (k : Int) < (T.length : Int) + 1 := by omega
      clear q1 q2 q3 hl
      go_wp2_with fail
      refine wp_region_grown (by kernel_rfl) (by kernel_rfl) ?_
      repeat (go_big_quiet_step ((go_at_call 71; exact grown_call (HST.out _ (Grw.low _)))))
      refine wpQuiet_nil ?_
      intro w7 hw7
      obtain ⟨⟨w7', hb7⟩, rfl⟩ := hw7
      clear g0 g1 g2
      go_wp2_with fail
      go_roundw
      case measure => simp [intOf]; omega
      case rel => exact ⟨k + 1, by omega, by go_num, below_more hb hb7⟩
    · have hkI : (T.length : Int) ≤ (k : Int) := by omega
      have z0 := keep_cell hbw cz
      have hb0 := hb
      clear HRW
      go_wp2_with fail
      clear z0 y0 y1 y2
      go_loopw [10] (fun i wr => ∃ k : Nat, k ≤ c.length ∧ i = .int .i64 k ∧ Below w2.heap.size w2 wr) (fun i _ => c.length - (intOf i).toNat)
      case atStart => exact ⟨0, Nat.zero_le _, rfl, hb0⟩
      case round =>
        clear hb hbw hb0
        obtain ⟨k2, hk2, rfl, hb⟩ := hrel
        obtain ⟨y0, y1, y2⟩ := HBX.out wr hb
        have hbw := below_more hba hb
        by_cases hlt2 : k2 < c.length
        · obtain ⟨x, hx⟩ := get_of_lt hlt2
          obtain rfl := hca (ne_nil hlt2)
          obtain ⟨q0, p0, p1, p2⟩ := HA.out k2 x hx
          obtain ⟨c0, c1, c2⟩ := atmC_keeps _ _ _ _ _ hbw q0
          replace p0 := keep_cell hbw p0
          replace p1 := keep_cell hbw p1
          replace p2 := keep_cell hbw p2
          have n0 : (x.thread != x.thread) = false := by simp
          have n1 : (x.at' != x.at') = false := by simp
          have n2 : (x.val != x.val) = false := by simp
          have hkI2 : (k2 : Int) < (c.length : Int) := by omega
          have hkJ2 : (k2 : Int) < (c.length : Int) + 1 := by omega
          clear hx q0
          go_wp2_with fail
          go_quiet (fail)
          go_wp2_with fail
          go_roundw
          case measure => simp [intOf]; omega
          case rel => exact ⟨k2 + 1, by omega, by go_num, below_drewN hb _⟩
        · have hkI2 : (c.length : Int) ≤ (k2 : Int) := by omega
          have z1 := keep_cell hbw cz0
          have hzl := World.block_lt_of_cell? _ _ z1
          simp only at hzl
          replace m0 := keep_cell hbw m0
          replace m1 := keep_cell hbw m1
          replace m2 := keep_cell hbw m2
          clear HA
          go_wp2_with fail
          go_ret
          exact ⟨rfl, hbw.alloc hbw.size _⟩

end Go.Proofs.YtomijmikkbhgmaaGreat

namespace Go.Proofs.YtomijmikkbhgmaaGreat
open Go.RowKit

/-- What a step's end comes to. -/
theorem step_end {b0 : Nat} {w w6 w7 w8 w9 : World} {R : Nat} {vts vxs : Value} {N N' M : Nat} {V : Nat → Value} {F : Nat → List Value} {MB P : Nat → Prop} (h : WM b0 w R vts vxs N V F MB P) (hbw : Below w.heap.size w w6) (t : Took b0 w6 w7 R vts vxs N' (fun b => P b ∨ (w.heap.size ≤ b ∧ b < w6.heap.size)) (fun b => P b ∨ (w.heap.size ≤ b ∧ b < w6.heap.size))) (hb8 : Below w7.heap.size w7 w8) {B H : Nat} (hB : w.heap.size ≤ B) (hH : H ≤ w6.heap.size) (hb9 : Btw B H w8 w9) (hN : N' ≤ M) : Took b0 w w9 R vts vxs M P P := by
  have hlo := h.lo
  have hrl := heap_ltA h.blk
  have hs := hbw.size
  have hs2 := t.frm.below.size
  obtain ⟨V', F', MB', q⟩ := t.wm
  exact over_end h hbw (w9 := w8) (P9 := fun b => P b ∨ (w.heap.size ≤ b ∧ b < w6.heap.size)) ⟨⟨V', F', MB', q.keep hb8⟩, ⟨t.frm.below.trans (hb8.mono (by omega)), fun b hb => (hb8.block b (q.pend b hb).2.1).trans (t.frm.same b hb)⟩, t.sub⟩ (fun b hp => .inl hp) (fun b q1 q2 => .inr ⟨by omega, by omega⟩) hB hb9 hN

set_option maxRecDepth 20000 in
set_option maxHeartbeats 16000000 in
theorem step_anyW (b0 : Nat) (R : Nat) (vts vxs : Value) (N : Nat) (V : Nat → Value) (F : Nat → List Value) (MB P : Nat → Prop) (w : World) (h : WM b0 w R vts vxs N V F MB P) (hN : N ≤ 10000000000) (w00 : World) (hw00 : w00.heap.size = b0) (hb00 : Below w00.heap.size w00 w) (hxs : ExsAt w00 vxs) (hts : TssAt w00 vts) (kd a bn : Int) (ha : -9223372036854775808 ≤ a ∧ a ≤ 9223372036854775807) (hbn : -9223372036854775808 ≤ bn ∧ bn ≤ 9223372036854775807) :
    Calls Tryz.prog 14 #[.pointer (some ⟨R, 0, none⟩), .agg #[.int .i64 kd, .int .i64 a, .int .i64 bn]] w fun e w' => e = .returned (.bool true) ∧ Took b0 w w' R vts vxs (N + 2001) P P := by
  have HW := hid h
  obtain ⟨aoX, nX, capX, hvX, hnX, hX⟩ := hts
  subst hvX
  obtain ⟨c0, _⟩ := h.cells
  have hRl := heap_ltA h.blk
  have HX := hid hX
  have hba := below_alloc w (.cells #[.int .i64 kd, .int .i64 a, .int .i64 bn] 43)
  by_cases hX0 : nX = 0
  · subst hX0
    have HK := hid (Took.none h hba (M := N + 2001) (by omega))
    clear h hX HX HW
    go_enter Tryz.func14, Tryz.ntmps14
    go_wp2_with fail
    go_ret
    exact ⟨rfl, HK.out⟩
  · obtain ⟨b, off, vt, vc, T, fa, c, rfl, q0, q1, q2, q3, q4, q5, q6⟩ := HX.out (pickV a nX) (pickV_lt a nX (by omega))
    have hpl := pickV_lt a nX (by omega)
    have HPK : Hid (∀ w', Calls Tryz.prog 32 #[.int .i64 a, .int .i64 nX] w' fun e w'' => e = .returned (.int .i64 (pickV a nX : Nat)) ∧ w'' = w') := fun w' => pick_anyW a nX (by omega) hnX ha w'
    have HQ := hid (And.intro q3 (And.intro q4 (And.intro q5 q6)))
    obtain ⟨⟨a1, n1, p1, e1⟩, ⟨a2, n2, p2, e2⟩⟩ : (∃ a n p, vt = .slice a n p) ∧ ∃ a n p, vc = .slice a n p := by
      obtain ⟨_, a1, _, _, p1, e1, _⟩ := q3.ht
      obtain ⟨_, a2, _, _, p2, e2, _⟩ := q3.hc
      exact ⟨⟨a1, _, p1, e1⟩, ⟨a2, _, p2, e2⟩⟩
    subst e1 e2
    generalize pickV a nX = k at *
    replace q0 := keep_cell (below_more hb00 hba) q0
    replace q1 := keep_cell (below_more hb00 hba) q1
    replace q2 := keep_cell (below_more hb00 hba) q2
    have s0 : (w.alloc (.cells #[.int .i64 kd, .int .i64 a, .int .i64 bn] 43)).cell? ⟨w.heap.size, 0, none⟩ = some (.int .i64 kd) := by simp
    have s1 : (w.alloc (.cells #[.int .i64 kd, .int .i64 a, .int .i64 bn] 43)).cell? ⟨w.heap.size, 1, none⟩ = some (.int .i64 a) := by simp
    have s2 : (w.alloc (.cells #[.int .i64 kd, .int .i64 a, .int .i64 bn] 43)).cell? ⟨w.heap.size, 2, none⟩ = some (.int .i64 bn) := by simp
    replace c0 := keep_cell hba c0
    have hn0 : ((nX : Int) == 0) = false := by simp; omega
    clear h hX HX q3 q4 q5 q6
    go_enter Tryz.func14, Tryz.ntmps14
    go_upto_region 1 with fail
    generalize w.alloc (.cells #[.int .i64 kd, .int .i64 a, .int .i64 bn] 43) = W0 at *
    have hbl := World.block_lt_of_cell? _ _ q0
    have hRl2 := World.block_lt_of_cell? _ _ c0
    have hSl2 := World.block_lt_of_cell? _ _ s0
    simp only at hbl hRl2 hSl2
    go_upto_region 3 with fail
    go_cut [5] from 9 (fun p wc => p = .pointer (some ⟨W0.heap.size, 0, none⟩) ∧ Below W0.heap.size W0 wc ∧ wc.heap[W0.heap.size]? = some (.cells #[.slice a1 n1 p1, .bool fa, .slice a2 n2 p2] 25 (0, 0)))
    case first =>
      have hu1 := World.new_ne W0 _ q0
      have hu2 := World.new_ne W0 _ c0
      have hu3 := World.new_ne W0 _ s0
      simp only at hu1 hu2 hu3
      go_region_held3 (fun w' => w'.cell? ⟨R, 0, none⟩ = some (.slice (some ⟨b, off, none⟩) nX capX) ∧ w'.cell? ⟨w.heap.size, 1, none⟩ = some (.int .i64 a) ∧ w'.cell? ⟨b, off + k * 3, none⟩ = some (.slice a1 n1 p1) ∧ w'.cell? ⟨b, off + k * 3 + 1, none⟩ = some (.bool fa) ∧ w'.cell? ⟨b, off + k * 3 + 2, none⟩ = some (.slice a2 n2 p2)) (go_keep) (first | (go_at_call 32; refine (HPK.out _).mono ?_; rintro e w1 ⟨rfl, rfl⟩))
      all_goals
        go_wp2_with fail
        go_meet
        case rel => exact ⟨rfl, (below_alloc _ _).drew, heap_alloc_new _ _⟩
    case rest =>
      obtain ⟨rfl, hbc, hblk⟩ := hcut
      have hbwc : Below w.heap.size w wc := below_more hba hbc
      have t0 : wc.cell? ⟨W0.heap.size, 0, none⟩ = some (.slice a1 n1 p1) := by rw [cell_of_row _ _ _ _ _ _ hblk]; rfl
      have t1 : wc.cell? ⟨W0.heap.size, 1, none⟩ = some (.bool fa) := by rw [cell_of_row _ _ _ _ _ _ hblk]; rfl
      have t2 : wc.cell? ⟨W0.heap.size, 2, none⟩ = some (.slice a2 n2 p2) := by rw [cell_of_row _ _ _ _ _ _ hblk]; rfl
      have htl := heap_ltA hblk
      have hs0 := hba.size
      replace s0 := keep_cell hbc s0
      replace s1 := keep_cell hbc s1
      replace s2 := keep_cell hbc s2
      clear q0 q1 q2 c0 hblk HPK hba hbl hRl2
      have HRM := hid (roomy_any T fa c _ _ wc (HQ.out.1.keep (below_more hb00 hbwc)) HQ.out.2.1 HQ.out.2.2.1 HQ.out.2.2.2)
      go_wp2_with fail
      refine HRM.out.mono ?_
      rintro e w5 ⟨ut, uc, vs, rfl, hrm, hb5⟩
      clear HRM
      have HUT := hid (hrm.test fa HQ.out.2.1 HQ.out.2.2.1 HQ.out.2.2.2)
      obtain ⟨⟨a3, n3, p3, e3⟩, ⟨a4, n4, p4, e4⟩⟩ : (∃ a n p, ut = .slice a n p) ∧ ∃ a n p, uc = .slice a n p := by
        obtain ⟨_, a1, _, _, p1, e1, _⟩ := HUT.out.ht
        obtain ⟨_, a2, _, _, p2, e2, _⟩ := HUT.out.hc
        exact ⟨⟨a1, _, p1, e1⟩, ⟨a2, _, p2, e2⟩⟩
      subst e3 e4
      have HRM := hid hrm
      clear hrm
      have hba5 := below_alloc w5 (.cells #[.slice a3 n3 p3, .bool fa, .slice a4 n4 p4] 25)
      have hb56 := below_more hb5 hba5
      have hbw6 := below_more hbwc hb56
      have z0 : (w5.alloc (.cells #[.slice a3 n3 p3, .bool fa, .slice a4 n4 p4] 25)).cell? ⟨w5.heap.size, 0, none⟩ = some (.slice a3 n3 p3) := by simp
      have z1 : (w5.alloc (.cells #[.slice a3 n3 p3, .bool fa, .slice a4 n4 p4] 25)).cell? ⟨w5.heap.size, 1, none⟩ = some (.bool fa) := by simp
      have z2 : (w5.alloc (.cells #[.slice a3 n3 p3, .bool fa, .slice a4 n4 p4] 25)).cell? ⟨w5.heap.size, 2, none⟩ = some (.slice a4 n4 p4) := by simp
      have hs6 : (w5.alloc (.cells #[.slice a3 n3 p3, .bool fa, .slice a4 n4 p4] 25)).heap.size = w5.heap.size + 1 := by simp
      replace t0 := keep_cell hb56 t0
      replace t1 := keep_cell hb56 t1
      replace t2 := keep_cell hb56 t2
      replace s0 := keep_cell hb56 s0
      replace s1 := keep_cell hb56 s1
      replace s2 := keep_cell hb56 s2
      have hc5 := hb5.size
      have hcw := hbwc.size
      have hcW := hbc.size
      have HU6 := hid (HUT.out.keep hba5)
      have HRM6 := hid (HRM.out.keep (fun b _ h2 => hba5.block b h2))
      have HT6 := hid (HQ.out.1.keep (below_more hb00 hbw6))
      have HW6 := hid (HW.out.more hbw6)
      have HEN := hid (fun (w7 w8 w9 : World) (t : Took b0 (w5.alloc (.cells #[.slice a3 n3 p3, .bool fa, .slice a4 n4 p4] 25)) w7 R (.slice (some ⟨b, off, none⟩) nX capX) vxs (N + 2001) (fun b => P b ∨ (w.heap.size ≤ b ∧ b < (w5.alloc (.cells #[.slice a3 n3 p3, .bool fa, .slice a4 n4 p4] 25)).heap.size)) (fun b => P b ∨ (w.heap.size ≤ b ∧ b < (w5.alloc (.cells #[.slice a3 n3 p3, .bool fa, .slice a4 n4 p4] 25)).heap.size))) (hb8 : Below w7.heap.size w7 w8) (hb9 : Btw wc.heap.size w5.heap.size w8 w9) => step_end HW.out hbw6 t hb8 hcw (by omega) hb9 (M := N + 2001) (Nat.le_refl _))
      have HOV := hid (over_any b0 R (.slice (some ⟨b, off, none⟩) nX capX) vxs N V F MB _ _ HW6.out hN w00 hw00 (below_more hb00 hbw6) hxs T fa c _ _ _ _ HT6.out HU6.out kd a bn hbn)
      have HCA := hid (calls_any b0 R (.slice (some ⟨b, off, none⟩) nX capX) vxs N V F MB _ _ HW6.out hN T fa c _ _ _ _ HT6.out HU6.out kd a bn)
      have HFR := hid (fun (w7 : World) (t : Took b0 (w5.alloc (.cells #[.slice a3 n3 p3, .bool fa, .slice a4 n4 p4] 25)) w7 R (.slice (some ⟨b, off, none⟩) nX capX) vxs (N + 2001) (fun b => P b ∨ (w.heap.size ≤ b ∧ b < (w5.alloc (.cells #[.slice a3 n3 p3, .bool fa, .slice a4 n4 p4] 25)).heap.size)) (fun b => P b ∨ (w.heap.size ≤ b ∧ b < (w5.alloc (.cells #[.slice a3 n3 p3, .bool fa, .slice a4 n4 p4] 25)).heap.size))) => t.frm.same)
      go_upto_region 5 with fail
      generalize w5.alloc (.cells #[.slice a3 n3 p3, .bool fa, .slice a4 n4 p4] 25) = w6 at *
      have fin : ∀ w7 : World, Took b0 w6 w7 R (.slice (some ⟨b, off, none⟩) nX capX) vxs (N + 2001) (fun b => P b ∨ (w.heap.size ≤ b ∧ b < w6.heap.size)) (fun b => P b ∨ (w.heap.size ≤ b ∧ b < w6.heap.size)) → Hid (w7.cell? ⟨W0.heap.size, 0, none⟩ = some (.slice a1 n1 p1) ∧ w7.cell? ⟨W0.heap.size, 1, none⟩ = some (.bool fa) ∧ w7.cell? ⟨W0.heap.size, 2, none⟩ = some (.slice a2 n2 p2) ∧ w7.cell? ⟨w5.heap.size, 0, none⟩ = some (.slice a3 n3 p3) ∧ w7.cell? ⟨w5.heap.size, 1, none⟩ = some (.bool fa) ∧ w7.cell? ⟨w5.heap.size, 2, none⟩ = some (.slice a4 n4 p4) ∧ RmT wc.heap.size w5.heap.size w7 (.slice a3 n3 p3) (.slice a4 n4 p4) T c vs ∧ TestAt w7 (.agg #[.slice a1 n1 p1, .bool fa, .slice a2 n2 p2]) T fa c (.slice a1 n1 p1) (.slice a2 n2 p2) ∧ w6.heap.size ≤ w7.heap.size) := fun w7 t => by
        have hs := t.frm.below.size
        have e1 := t.frm.same W0.heap.size (.inr ⟨by omega, by omega⟩)
        have e2 := t.frm.same w5.heap.size (.inr ⟨by omega, by omega⟩)
        exact ⟨cell_heap e1 t0, cell_heap e1 t1, cell_heap e1 t2, cell_heap e2 z0, cell_heap e2 z1, cell_heap e2 z2, HRM6.out.keep (fun b h1 h2 => t.frm.same b (.inr ⟨by omega, by omega⟩)), HQ.out.1.keep ((below_more hb00 hbw6).trans (by rw [hw00]; exact t.frm.below)), hs⟩
      have FIN := hid fin
      clear fin HW6 HT6 HU6 HRM6 HUT HRM HFR
      rcases (by omega : kd = 5 ∨ kd = 6 ∨ (kd ≠ 5 ∧ kd ≠ 6)) with k5 | k6 | ⟨k5, k6⟩
      · subst k5
        clear HCA
        go_wp2_with fail
        refine HOV.out.mono ?_
        clear HOV
        rintro e w7 ⟨rfl, ht⟩
        obtain ⟨x0, x1, x2, x3, x4, x5, x6, x7, x8⟩ := (FIN.out w7 ht).out
        have HKP := hid (keptL_any wc.heap.size w5.heap.size T fa c HQ.out.2.1 HQ.out.2.2.1 HQ.out.2.2.2 _ _ _ _ vs w7 x6 x7)
        have HRM7 := hid x6
        have HT := hid ht
        clear x6 x7 ht FIN t0 t1 t2 z0 z1 z2 s0 s1 s2
        go_wp2_with fail
        refine HKP.out.mono ?_
        rintro e w8 ⟨rfl, hb8⟩
        replace x3 := keep_cell hb8 x3
        replace x4 := keep_cell hb8 x4
        replace x5 := keep_cell hb8 x5
        have hb8s := hb8.size
        have HSP := hid (spoil_any wc.heap.size w5.heap.size T fa c HQ.out.2.1 HQ.out.2.2.1 HQ.out.2.2.2 _ _ vs w8 (by omega) (HRM7.out.keep fun b _ h2 => hb8.block b (by omega)))
        clear HKP x0 x1 x2
        go_wp2_with fail
        refine HSP.out.mono ?_
        rintro e w9 ⟨r, rfl, hb9⟩
        have HK := hid (HEN.out w7 w8 w9 HT.out hb8 hb9)
        clear HSP HEN x3 x4 x5 HRM7 HT
        go_wp2_with fail
        go_ret
        exact ⟨rfl, HK.out⟩
      · subst k6
        clear HCA
        go_wp2_with fail
        refine HOV.out.mono ?_
        clear HOV
        rintro e w7 ⟨rfl, ht⟩
        obtain ⟨x0, x1, x2, x3, x4, x5, x6, x7, x8⟩ := (FIN.out w7 ht).out
        have HKP := hid (keptL_any wc.heap.size w5.heap.size T fa c HQ.out.2.1 HQ.out.2.2.1 HQ.out.2.2.2 _ _ _ _ vs w7 x6 x7)
        have HRM7 := hid x6
        have HT := hid ht
        clear x6 x7 ht FIN t0 t1 t2 z0 z1 z2 s0 s1 s2
        go_wp2_with fail
        refine HKP.out.mono ?_
        rintro e w8 ⟨rfl, hb8⟩
        replace x3 := keep_cell hb8 x3
        replace x4 := keep_cell hb8 x4
        replace x5 := keep_cell hb8 x5
        have hb8s := hb8.size
        have HSP := hid (spoil_any wc.heap.size w5.heap.size T fa c HQ.out.2.1 HQ.out.2.2.1 HQ.out.2.2.2 _ _ vs w8 (by omega) (HRM7.out.keep fun b _ h2 => hb8.block b (by omega)))
        clear HKP x0 x1 x2
        go_wp2_with fail
        refine HSP.out.mono ?_
        rintro e w9 ⟨r, rfl, hb9⟩
        have HK := hid (HEN.out w7 w8 w9 HT.out hb8 hb9)
        clear HSP HEN x3 x4 x5 HRM7 HT
        go_wp2_with fail
        go_ret
        exact ⟨rfl, HK.out⟩
      · have k5' : (kd == 5) = false := by simpa using k5
        have k6' : (kd == 6) = false := by simpa using k6
        clear HOV
        go_wp2_with fail
        refine HCA.out.mono ?_
        clear HCA
        rintro e w7 ⟨rfl, ht⟩
        obtain ⟨x0, x1, x2, x3, x4, x5, x6, x7, x8⟩ := (FIN.out w7 ht).out
        have HKP := hid (keptL_any wc.heap.size w5.heap.size T fa c HQ.out.2.1 HQ.out.2.2.1 HQ.out.2.2.2 _ _ _ _ vs w7 x6 x7)
        have HRM7 := hid x6
        have HT := hid ht
        clear x6 x7 ht FIN t0 t1 t2 z0 z1 z2 s0 s1 s2
        go_wp2_with fail
        refine HKP.out.mono ?_
        rintro e w8 ⟨rfl, hb8⟩
        replace x3 := keep_cell hb8 x3
        replace x4 := keep_cell hb8 x4
        replace x5 := keep_cell hb8 x5
        have hb8s := hb8.size
        have HSP := hid (spoil_any wc.heap.size w5.heap.size T fa c HQ.out.2.1 HQ.out.2.2.1 HQ.out.2.2.2 _ _ vs w8 (by omega) (HRM7.out.keep fun b _ h2 => hb8.block b (by omega)))
        clear HKP x0 x1 x2
        go_wp2_with fail
        refine HSP.out.mono ?_
        rintro e w9 ⟨r, rfl, hb9⟩
        have HK := hid (HEN.out w7 w8 w9 HT.out hb8 hb9)
        clear HSP HEN x3 x4 x5 HRM7 HT
        go_wp2_with fail
        go_ret
        exact ⟨rfl, HK.out⟩

end Go.Proofs.YtomijmikkbhgmaaGreat
