import Derived.Test.YtomijmikkbhgmaaGreatT33
import Derived.Test.YtomijmikkbhgmaaGreatT2
import Derived.Test.YtomijmikkbhgmaaGreatT17
namespace Go.Proofs.YtomijmikkbhgmaaGreat
open Go.RowKit

/-- An execution whose lists are not too long to be copied. -/
structure XFits (x : Exe) : Prop where
  f : x.from'.length * 8 ≤ 140737488351232
  o : x.order.length * 24 ≤ 140737488351232
  l : ∀ l ∈ x.order, l.length * 8 ≤ 140737488351232

/-- copied's own memory: the boxed execution, the result, the copy so far in block B. -/
structure CpSt (w wr : World) (vf vo : Value) (B : Nat) (F : List Int) (uf V : Value) (L : List (List Int)) (vs : List Value) : Prop where
  below : Below w.heap.size w wr
  hB : B = w.heap.size + 2
  b1 : wr.cell? ⟨w.heap.size, 1, none⟩ = some vo
  r0 : wr.cell? ⟨w.heap.size + 1, 0, none⟩ = some (.slice none 0 0)
  r1 : wr.cell? ⟨w.heap.size + 1, 1, none⟩ = some (.slice none 0 0)
  q0 : wr.frozen? ⟨w.heap.size + 1, 0, none⟩ = false
  q1 : wr.frozen? ⟨w.heap.size + 1, 1, none⟩ = false
  f0 : wr.cell? ⟨B, 0, none⟩ = some uf
  f1 : wr.cell? ⟨B, 1, none⟩ = some V
  z1 : wr.frozen? ⟨B, 1, none⟩ = false
  lb : B < wr.heap.size
  fr : IntAt wr uf F
  fb : ∀ g, uf.ownBlock = some g → B < g ∧ g < wr.heap.size ∧ V.ownBlock ≠ some g
  ll : LL wr (B + 1) V L vs

theorem CpSt.step {w wr w1 w2 : World} {vf vo : Value} {B : Nat} {F : List Int} {uf V V' : Value} {L : List (List Int)} {vs : List Value} (h : CpSt w wr vf vo B F uf V L vs)
    (hb1 : Below wr.heap.size wr w1) {l : List Int} {u : Value} {o : Obj} (hu : IntCap w1 u l) (hub : ∀ b, u.ownBlock = some b → wr.heap.size ≤ b ∧ b < w1.heap.size)
    (hown : w2.ownsRow (B + 1) 26 1 V' (L.length + 1) (vs ++ [u])) (hg : (w1.alloc o).grownBy w2 V.ownBlock) (hap : ∀ g, V'.ownBlock = some g → V.ownBlock = some g ∨ w1.heap.size + 1 ≤ g) :
    CpSt w (w2.setCell ⟨B, 1, none⟩ V') vf vo B F uf V' (L ++ [l]) (vs ++ [u]) := by
  have hB := h.hB
  have hBl := h.lb
  have hs1 := hb1.size
  have hVb : ∀ g, V.ownBlock = some g → B + 1 ≤ g ∧ g < wr.heap.size := fun g hg => h.ll.own.lt g hg
  have hs2 : w1.heap.size + 1 ≤ w2.heap.size := by have := hg.size; simpa using this
  have key2 : ∀ b, b < wr.heap.size → V.ownBlock ≠ some b → w2.heap[b]? = wr.heap[b]? := fun b hb hne => by
    rw [hg.block b (by simp; omega) (fun e => hne e.symm), Below.heap_alloc _ _ _ (by omega), hb1.block b hb]
  have key : ∀ b, b < wr.heap.size → V.ownBlock ≠ some b → b ≠ B → (w2.setCell ⟨B, 1, none⟩ V').heap[b]? = wr.heap[b]? := fun b hb hne hnB => by
    rw [Below.heap_setCell _ _ _ _ hnB, key2 b hb hne]
  have kc : ∀ b off x, b < B → wr.cell? ⟨b, off, none⟩ = some x → (w2.setCell ⟨B, 1, none⟩ V').cell? ⟨b, off, none⟩ = some x := fun b off x hb hc =>
    cell_heap (key b (by omega) (fun e => by have := (hVb b e).1; omega) (by omega)) hc
  have kf : ∀ b off, b < B → (w2.setCell ⟨B, 1, none⟩ V').frozen? ⟨b, off, none⟩ = wr.frozen? ⟨b, off, none⟩ := fun b off hb =>
    World.frozen?_of_block (w := wr) (key b (by omega) (fun e => by have := (hVb b e).1; omega) (by omega))
  have hBk : w2.heap[B]? = wr.heap[B]? := key2 B hBl (fun e => by have := (hVb B e).1; omega)
  have f0 : w2.cell? ⟨B, 0, none⟩ = some uf := cell_heap hBk h.f0
  have f1 : w2.cell? ⟨B, 1, none⟩ = some V := cell_heap hBk h.f1
  have z1 : w2.frozen? ⟨B, 1, none⟩ = false := (World.frozen?_of_block (w := wr) hBk).trans h.z1
  have hll : LL w2 (B + 1) V' (L ++ [l]) (vs ++ [u]) := (h.ll.keep hb1).snoc hu (fun b hb => ⟨by have := (hub b hb).1; omega, (hub b hb).2, fun e => by have := (hVb b e).2; have := (hub b hb).1; omega⟩) hown hg hap
  have hbel : Below w.heap.size w (w2.setCell ⟨B, 1, none⟩ V') := by
    refine Below.setCell ?_ (by simp; omega) _
    exact Below.grown ((below_more h.below hb1).alloc (below_more h.below hb1).size _) hg (by have := h.below.size; simp; omega) (fun kk e => by have := (hVb kk e).1; omega)
  refine ⟨hbel, hB, kc _ _ _ (by omega) h.b1, kc _ _ _ (by omega) h.r0, kc _ _ _ (by omega) h.r1, (kf _ _ (by omega)).trans h.q0, (kf _ _ (by omega)).trans h.q1, ?_, ?_, ?_, by simp [World.setCell]; omega, ?_, fun g hg' => ?_, ?_⟩
  · simp [go_sem, f0]
  · simp [go_sem, f1]
  · simp [go_sem, z1]
  · exact h.fr.other (fun b hb => key b (h.fb b hb).2.1 (h.fb b hb).2.2 (by have := (h.fb b hb).1; omega))
  · obtain ⟨a1, a2, a3⟩ := h.fb g hg'
    refine ⟨a1, by simp [World.setCell]; omega, fun e => ?_⟩
    rcases hap g e with e' | e'
    · exact a3 e'
    · omega
  · exact hll.other (by simp [World.setCell]) (fun b hb1 _ => Below.heap_setCell _ _ _ _ (by simp; omega))

theorem row_form {w : World} {base : Nat} {e : TypeId} {size : Nat} {v : Value} {n : Nat} {xs : List Value} (h : w.ownsRow base e size v n xs) : ∃ ao cap, v = .slice ao n cap := by
  rcases h.2 with ⟨rfl, rfl⟩ | ⟨g, cap, cur, hv, _⟩
  · exact ⟨none, 0, rfl⟩
  · exact ⟨_, cap, hv⟩

theorem box3 (w : World) (a b : Value) (t : TypeId) {W : World} (hW : ((w.alloc (.cells #[a, b] t)).alloc (.cells #[.slice none 0 0, .slice none 0 0] t)).alloc (.cells #[.slice none 0 0, .slice none 0 0] t) = W) :
    W.cell? ⟨w.heap.size + 1 + 1, 0, none⟩ = some (.slice none 0 0) ∧ W.cell? ⟨w.heap.size + 1 + 1, 1, none⟩ = some (.slice none 0 0) ∧ W.cell? ⟨w.heap.size, 1, none⟩ = some b ∧ W.cell? ⟨w.heap.size + 1, 0, none⟩ = some (.slice none 0 0) ∧ W.cell? ⟨w.heap.size + 1, 1, none⟩ = some (.slice none 0 0) ∧
    W.frozen? ⟨w.heap.size + 1 + 1, 0, none⟩ = false ∧ W.frozen? ⟨w.heap.size + 1 + 1, 1, none⟩ = false ∧ W.frozen? ⟨w.heap.size + 1, 0, none⟩ = false ∧ W.frozen? ⟨w.heap.size + 1, 1, none⟩ = false ∧ W.heap.size = w.heap.size + 1 + 1 + 1 ∧ Below w.heap.size w W := by
  have k1 := below_alloc (w.alloc (.cells #[a, b] t)) (.cells #[.slice none 0 0, .slice none 0 0] t)
  have k2 := below_alloc ((w.alloc (.cells #[a, b] t)).alloc (.cells #[.slice none 0 0, .slice none 0 0] t)) (.cells #[.slice none 0 0, .slice none 0 0] t)
  rw [hW] at k2
  have k := below_more k1 k2
  have e1 : (w.alloc (.cells #[a, b] t)).heap.size = w.heap.size + 1 := by simp
  have e2 : ((w.alloc (.cells #[a, b] t)).alloc (.cells #[.slice none 0 0, .slice none 0 0] t)).heap.size = w.heap.size + 1 + 1 := by simp
  have hc := below_three w (.cells #[a, b] t) (.cells #[.slice none 0 0, .slice none 0 0] t) (.cells #[.slice none 0 0, .slice none 0 0] t)
  rw [hW] at hc
  refine ⟨?_, ?_, keep_cell k (cell_new rfl rfl), keep_cell k2 (cell_new e1.symm rfl), keep_cell k2 (cell_new e1.symm rfl), ?_, ?_, (keep_frozen' k2 (by simp)).trans (frozen_new e1.symm), (keep_frozen' k2 (by simp)).trans (frozen_new e1.symm), by rw [← hW]; simp, hc⟩
  · rw [← hW]; exact cell_new e2.symm rfl
  · rw [← hW]; exact cell_new e2.symm rfl
  · rw [← hW]; exact frozen_new e2.symm
  · rw [← hW]; exact frozen_new e2.symm

set_option maxRecDepth 20000 in
set_option maxHeartbeats 1000000 in
theorem copied_any (x : Exe) (hfit : XFits x) (vf vo : Value) (w : World) (hx : ExeAt w vf vo x) :
    Calls Tryz.prog 18 #[.agg #[vf, vo]] w fun e w' => ∃ vf' vo', e = .returned (.agg #[vf', vo']) ∧ ExeAt w' vf' vo' x ∧ Below w.heap.size w w' := by
  obtain ⟨aof, bf, offf, capf, hsf⟩ := hx.f
  have hvf := hsf.hv
  obtain ⟨aoo, bo, offo, capo, hvo, hao, _, hco⟩ := hx.o
  subst hvf hvo
  have HSF : Hid (SlAt w 1 IntC (.slice aof x.from'.length capf) x.from' aof bf offf capf) := hsf
  have HO : Hid (∀ k l, x.order[k]? = some l → LC w bo (offo + k * 1) l) := hco
  obtain ⟨hf8, ho24, hl8⟩ := hfit
  have HL8 : Hid (∀ l ∈ x.order, l.length * 8 ≤ 140737488351232) := hl8
  obtain ⟨i0, hi, hz0, hz1, hz2⟩ := info_parts Tryz.info3
  have HI : Hid (Tryz.prog.info? 3 = some i0 ∧ i0.zero = some (.int .i64 0) ∧ i0.size = 1 ∧ i0.bytes = 8) := ⟨hi, hz0, hz1, hz2⟩
  obtain ⟨i1, hi', hz0', hz1', hz2'⟩ := info_parts Tryz.infoInts
  have HI1 : Hid (Tryz.prog.info? 26 = some i1 ∧ i1.zero = some (.slice none 0 0) ∧ i1.size = 1 ∧ i1.bytes = 24) := ⟨hi', hz0', hz1', hz2'⟩
  have HX : Hid (∀ i0' : Nat, i0' = i0' → True) := fun _ _ => trivial
  clear hi hz0 hz1 hz2 hi' hz0' hz1' hz2' hsf hco hl8 hx HX
  go_enter Tryz.func18, Tryz.ntmps18
  go_wp2_with (at_builtin; refine append_new _ rfl _ _ 26 rfl (w.heap.size + 1 + 1 + 1) 3 i0 (.int .i64 0) 1 8 Tryz.underlying26 HI.out.1 HI.out.2.1 HI.out.2.2.1 HI.out.2.2.2 rfl (by decide) (.slice none 0 0) 0 [] rfl (World.ownsRow_nil _ _ _ _) aof x.from'.length capf (x.from'.map (Value.int .i64)) rfl (fun h => by have := HSF.out.hn h; exact ⟨by rw [this.1]; rfl, this.2⟩) (by simp) (int_cells (HSF.out.keep intC_keeps (below_three _ _ _ _))) (by intro u hu; obtain ⟨y, _, rfl⟩ := List.mem_map.1 hu; rfl) (by unfold maxLen; omega) (by omega) (by simp) ?_)
  intro uf w1 hown1 hgrow1 _
  have hb1 : Below (w.heap.size + 1 + 1 + 1) (((w.alloc (.cells #[.slice aof x.from'.length capf, .slice aoo x.order.length capo] 29)).alloc (.cells #[.slice none 0 0, .slice none 0 0] 29)).alloc (.cells #[.slice none 0 0, .slice none 0 0] 29)) w1 := ⟨hgrow1.os, hgrow1.tape, hgrow1.output, hgrow1.size, fun k hk => hgrow1.block k (by simpa using hk) (by simp [Value.ownBlock])⟩
  obtain ⟨aoU, capU, hform1⟩ := row_form hown1
  subst hform1
  obtain ⟨d0, d1, b1, r0, r1, z0, z1, q0, q1, hsz3, hb3⟩ := box3 w (.slice aof x.from'.length capf) (.slice aoo x.order.length capo) 29 rfl
  replace d0 := (hb1.cell (p := ⟨w.heap.size + 1 + 1, 0, none⟩) (by simp)).trans d0
  replace d1 := (hb1.cell (p := ⟨w.heap.size + 1 + 1, 1, none⟩) (by simp)).trans d1
  replace b1 := (hb1.cell (p := ⟨w.heap.size, 1, none⟩) (by first | (simp; done) | (simp; omega))).trans b1
  replace r0 := (hb1.cell (p := ⟨w.heap.size + 1, 0, none⟩) (by first | (simp; done) | (simp; omega))).trans r0
  replace r1 := (hb1.cell (p := ⟨w.heap.size + 1, 1, none⟩) (by first | (simp; done) | (simp; omega))).trans r1
  replace z0 := (hb1.frozen (p := ⟨w.heap.size + 1 + 1, 0, none⟩) (by simp)).trans z0
  replace z1 := (hb1.frozen (p := ⟨w.heap.size + 1 + 1, 1, none⟩) (by simp)).trans z1
  replace q0 := (hb1.frozen (p := ⟨w.heap.size + 1, 0, none⟩) (by first | (simp; done) | (simp; omega))).trans q0
  replace q1 := (hb1.frozen (p := ⟨w.heap.size + 1, 1, none⟩) (by first | (simp; done) | (simp; omega))).trans q1
  have hbw1 : Below w.heap.size w w1 := hb3.trans (hb1.mono (by omega))
  have HST : Hid (CpSt w (w1.setCell ⟨w.heap.size + 1 + 1, 0, none⟩ (.slice aoU x.from'.length capU)) (.slice aof x.from'.length capf) (.slice aoo x.order.length capo) (w.heap.size + 1 + 1) x.from' (.slice aoU x.from'.length capU) (.slice none 0 0) (x.order.take 0) []) := by
    have ho := Only.setCell (w.heap.size + 1 + 1) 0 (.slice aoU x.from'.length capU) w1
    have hfz : ∀ b o, b ≠ w.heap.size + 1 + 1 → (w1.setCell ⟨w.heap.size + 1 + 1, 0, none⟩ (.slice aoU x.from'.length capU)).frozen? ⟨b, o, none⟩ = w1.frozen? ⟨b, o, none⟩ := fun b o hb => World.frozen?_of_block (w := w1) (Below.heap_setCell _ _ _ _ hb)
    have hlb : w.heap.size + 1 + 1 < w1.heap.size := by have := World.block_lt_of_cell? _ _ d0; simpa using this
    refine ⟨hbw1.setCell (by simp; omega) _, rfl, ho.cell b1 (by omega), ho.cell r0 (by omega), ho.cell r1 (by omega), (hfz _ _ (by omega)).trans q0, (hfz _ _ (by omega)).trans q1, by simp [go_sem, d0], by simp [go_sem, d1], by simp [go_sem, z1], by simp [World.setCell]; omega, ?_, fun g hg => ?_, LL.nil _ _⟩
    · exact (owns_int hown1).at'.other (fun b hb => Below.heap_setCell _ _ _ _ (by have := (hown1.lt b hb).1; simp; omega))
    · have := hown1.lt g hg
      exact ⟨by omega, by simp [World.setCell]; omega, by simp [Value.ownBlock]⟩
  clear hb1 hb3 hsz3 hbw1 hgrow1 hown1 b1 r0 r1 z1 q0 q1 d1
  go_wp2_with fail
  clear d0 z0
  generalize w.heap.size + 1 + 1 = B at HST ⊢
  go_loopw [4] (fun i wr => ∃ (k : Nat) (aoV : Option Addr) (capV : Nat) (vs : List Value), k ≤ x.order.length ∧ i = .int .i64 k ∧ Hid (CpSt w wr (.slice aof x.from'.length capf) (.slice aoo x.order.length capo) B x.from' (.slice aoU x.from'.length capU) (.slice aoV k capV) (x.order.take k) vs)) (fun i _ => x.order.length - (intOf i).toNat)
  case atStart => exact ⟨0, none, 0, _, Nat.zero_le _, rfl, HST.out⟩
  case round =>
    clear HST
    obtain ⟨k, aoV, capV, vs, hk, rfl, hst⟩ := hrel
    have HS := hst
    obtain ⟨hbel, -, b1, r0, r1, q0, q1, f0, f1, z1, lb, -, -, -⟩ := hst.out
    clear hst
    by_cases hlt : k < x.order.length
    · obtain ⟨l, hl⟩ := get_of_lt hlt
      obtain rfl := hao (ne_nil hlt)
      obtain ⟨ul, c0, ivl⟩ := lc_keeps _ _ _ _ _ hbel (HO.out k l hl)
      rw [Nat.mul_one] at c0
      obtain ⟨aol, bl, offl, capl, hsl⟩ := ivl
      have hvl := hsl.hv
      subst hvl
      have HSL : Hid (SlAt wr 1 IntC (.slice aol l.length capl) l aol bl offl capl) := hsl
      have hl8 := HL8.out l (List.mem_of_getElem? hl)
      have hkI : (k : Int) < (x.order.length : Int) := by omega
      have htk : Hid (x.order.take (k + 1) = x.order.take k ++ [l]) := by show _ = _; rw [List.take_add_one, hl]; rfl
      have hvl : (x.order.take k).length = k := by rw [List.length_take]; omega
      have hszw := hbel.size
      clear hsl hl
      go_wp2_with (at_builtin; refine append_new _ rfl _ _ 26 rfl wr.heap.size 3 i0 (.int .i64 0) 1 8 Tryz.underlying26 HI.out.1 HI.out.2.1 HI.out.2.2.1 HI.out.2.2.2 rfl (by decide) (.slice none 0 0) 0 [] rfl (World.ownsRow_nil _ _ _ _) aol l.length capl (l.map (Value.int .i64)) rfl (fun h => by have := HSL.out.hn h; exact ⟨by rw [this.1]; rfl, this.2⟩) (by simp) (int_cells HSL.out) (by intro u hu; obtain ⟨y, _, rfl⟩ := List.mem_map.1 hu; rfl) (by unfold maxLen; omega) (by omega) (Nat.le_refl _) ?_)
      intro u2 w2 hown2 hgrow2 hap2
      obtain ⟨aoU2, capU2, hf2⟩ := row_form hown2
      subst hf2
      have hb2 : Below wr.heap.size wr w2 := ⟨hgrow2.os, hgrow2.tape, hgrow2.output, hgrow2.size, fun k hk => hgrow2.block k hk (by simp [Value.ownBlock])⟩
      have HU2 : Hid (IntCap w2 (.slice aoU2 l.length capU2) l ∧ ∀ b, (Value.slice aoU2 l.length capU2).ownBlock = some b → wr.heap.size ≤ b ∧ b < w2.heap.size) := by
        have h1 : w2.ownsRow wr.heap.size 3 1 (.slice aoU2 l.length capU2) l.length (l.map (Value.int .i64)) := by simpa using hown2
        exact ⟨(owns_int h1).cap, fun b hb => h1.lt b hb⟩
      have g1 := keep_cell hb2 f1
      have gz1 : w2.frozen? ⟨B, 1, none⟩ = false := (hb2.frozen (p := ⟨B, 1, none⟩) lb).trans z1
      have hs2 := hb2.size
      clear hown2 hgrow2 hap2 b1 r0 r1 q0 q1 f0 f1 z1 c0
      obtain ⟨hown0⟩ : Nonempty (wr.ownsRow (B + 1) 26 1 (.slice aoV k capV) (x.order.take k).length vs) := ⟨HS.out.ll.own⟩
      rw [hvl] at hown0
      have hownV : Hid (w2.ownsRow (B + 1) 26 1 (.slice aoV k capV) k vs) := own_keep hown0 hb2
      clear hown0
      go_wp2_with (at_builtin; refine append_new _ rfl _ _ 27 rfl (B + 1) 26 i1 (.slice none 0 0) 1 24 Tryz.underlying27 HI1.out.1 HI1.out.2.1 HI1.out.2.2.1 HI1.out.2.2.2 rfl (by decide) (.slice aoV k capV) k vs rfl (hownV.out.alloc _) (some ⟨w2.heap.size, 0, none⟩) 1 1 [.slice aoU2 l.length capU2] rfl (fun h => by cases h) rfl (fun ad had => by cases had; exact new_one rfl) (by intro u hu; simp at hu; subst hu; rfl) (by unfold maxLen; omega) (by omega) (by simp; omega) ?_)
      intro V' w3 hown3 hgrow3 hap3
      obtain ⟨aoV', capV', hform3⟩ := row_form hown3
      subst hform3
      have d1 : w3.cell? ⟨B, 1, none⟩ = some (.slice aoV k capV) := by
        refine cell_heap (hgrow3.block B (by simp; omega) (fun e => ?_)) ((below_alloc w2 _).cell (p := ⟨B, 1, none⟩) (by simp; omega) |>.trans g1)
        have := (hownV.out.lt B e.symm).1
        omega
      have y1 : w3.frozen? ⟨B, 1, none⟩ = false := by
        refine (World.frozen?_of_block (w := w2.alloc _) (hgrow3.block B (by simp; omega) (fun e => ?_))).trans (((below_alloc w2 _).frozen (p := ⟨B, 1, none⟩) (by simp; omega)).trans gz1)
        have := (hownV.out.lt B e.symm).1
        omega
      have HS3 : Hid (CpSt w (w3.setCell ⟨B, 1, none⟩ (.slice aoV' (k + 1) capV')) (.slice aof x.from'.length capf) (.slice (some ⟨bo, offo, none⟩) x.order.length capo) B x.from' (.slice aoU x.from'.length capU) (.slice aoV' (k + 1) capV') (x.order.take (k + 1)) (vs ++ [.slice aoU2 l.length capU2])) := by
        rw [htk.out]
        refine HS.out.step hb2 HU2.out.1 HU2.out.2 (by rw [hvl]; exact hown3) hgrow3 (fun g hg => ?_)
        rcases hap3 g hg with h | h
        · exact .inl h
        · exact .inr (by simpa using h)
      clear hown3 hgrow3 hap3 g1 gz1 HS
      go_wp2_with fail
      go_roundw
      case measure => simp [intOf]; omega
      case rel => exact ⟨k + 1, _, _, _, by omega, by go_num, HS3.out⟩
    · have hkI : (x.order.length : Int) ≤ (k : Int) := by omega
      have htk : x.order.take k = x.order := List.take_of_length_le (by omega)
      go_wp2_with fail
      have hB := HS.out.hB
      refine bodyPost_ret (v := .agg #[.slice aoU x.from'.length capU, .slice aoV k capV]) (by simp [results, Tryz.results18, go_sem, *]) rfl ⟨_, _, rfl, ?_, (hbel.setCell (by simp) _).setCell (by simp) _⟩
      have hoth : ∀ b : Nat, b ≠ w.heap.size + 1 → ((wr.setCell ⟨w.heap.size + 1, 0, none⟩ (.slice aoU x.from'.length capU)).setCell ⟨w.heap.size + 1, 1, none⟩ (.slice aoV k capV)).heap[b]? = wr.heap[b]? := fun b hb => by
        rw [Below.heap_setCell _ _ _ _ hb, Below.heap_setCell _ _ _ _ hb]
      have hll := HS.out.ll
      rw [htk] at hll
      refine ⟨HS.out.fr.other (fun b hb => hoth b (by have := (HS.out.fb b hb).1; omega)), ?_⟩
      exact (hll.other (w' := (wr.setCell ⟨w.heap.size + 1, 0, none⟩ (.slice aoU x.from'.length capU)).setCell ⟨w.heap.size + 1, 1, none⟩ (.slice aoV k capV)) (by simp [World.setCell]) (fun b hb _ => hoth b (by omega))).read.at'

end Go.Proofs.YtomijmikkbhgmaaGreat

namespace Go.Proofs.YtomijmikkbhgmaaGreat
open Go.ChangeShapes Go.WideShapes Go.ChangeAt Go.RowKit Go.Deep

theorem Tryz.cellsExec : Tryz.prog.cellsOf 29 = 2 := by kernel_rfl
theorem Tryz.cellsInts : Tryz.prog.cellsOf 26 = 1 := by kernel_rfl
theorem Tryz.bytesInts : Tryz.prog.bytesOf 26 = 24 := by kernel_rfl
theorem Tryz.bytesInt : Tryz.prog.bytesOf 3 = 8 := by kernel_rfl

section
variable {H : Type} {enc : TypeId × Value → H} {w : World}

theorem open_ints {fuel : Nat} {v : Value} {x : DataW H × List MemPlace} (h : DataW.trod enc Tryz.prog w 0 (fun _ => true) true fuel 26 [v] = some x) (hw : ∀ n ∈ x.1.weights Tryz.prog 26, n ≤ reachBytes) : ∃ l : List Int, l.length * 8 ≤ 140737488351232 ∧ IntCap w v l := by
  obtain ⟨l, ao, b, off, cap, hs, hl⟩ := open_sl (α := Int) 0 (C := IntC) (s := 1) (by decide) Tryz.underlying26 Tryz.cellsInt (fun _ => True)
    (fun fuel cs x hx _ => by
      obtain ⟨a, e, _, _⟩ := DataW.trod_int Tryz.underlying3 hx
      subst e
      exact ⟨a, fun b off hc => hc 0 _ rfl⟩) h (fun _ _ _ _ _ => trivial)
  have hcap : l.length ≤ cap := by
    have hv := hs.hv
    rcases open_slice Tryz.underlying26 h with ⟨hcs, _⟩ | ⟨a, len, cap', m, n, D, Pl, hcs, _, hlc, _⟩
    · simp at hcs
      rw [hcs] at hv
      simp only [Value.slice.injEq] at hv
      omega
    · simp at hcs
      rw [hcs] at hv
      simp only [Value.slice.injEq] at hv
      omega
  refine ⟨l, ?_, ao, b, off, cap, hs, hcap⟩
  rcases hl with ⟨_, rfl⟩ | ⟨el, sp, e, hel⟩
  · simp
  · rw [e] at hw
    have := (weights_slice Tryz.underlying26 hw).1
    rw [Tryz.bytesInt, hel, reachBytes] at this
    omega

/-- A list of numbers that is not too long. -/
def LCF (w : World) (b off : Nat) (l : List Int) : Prop := l.length * 8 ≤ 140737488351232 ∧ LCC w b off l

theorem open_lists {fuel : Nat} {v : Value} {x : DataW H × List MemPlace} (h : DataW.trod enc Tryz.prog w 0 (fun _ => true) true fuel 27 [v] = some x) (hw : ∀ n ∈ x.1.weights Tryz.prog 27, n ≤ reachBytes) :
    ∃ L : List (List Int), L.length * 24 ≤ 140737488351232 ∧ (∀ l ∈ L, l.length * 8 ≤ 140737488351232) ∧ ∃ ao b off cap, SlAt w 1 LCC v L ao b off cap := by
  obtain ⟨l, ao, b, off, cap, hs, hl⟩ := open_sl (α := List Int) [] (C := LCF) (s := 1) (by decide) Tryz.underlying27 Tryz.cellsInts (fun d => ∀ n ∈ d.weights Tryz.prog 26, n ≤ reachBytes)
    (fun fuel cs x hx hok => by
      have hform : ∃ u, cs = [u] := by
        rcases open_slice Tryz.underlying26 hx with ⟨hcs, _⟩ | ⟨a, len, cap, m, n, D, Pl, hcs, _⟩
        · exact ⟨_, hcs⟩
        · exact ⟨_, hcs⟩
      obtain ⟨u, rfl⟩ := hform
      obtain ⟨l, hl1, hl2⟩ := open_ints hx hok
      exact ⟨l, fun b off hc => ⟨hl1, u, hc 0 _ rfl, hl2⟩⟩) h (fun el sp e d hd => by rw [e] at hw; exact (weights_slice Tryz.underlying27 hw).2 d hd)
  refine ⟨l, ?_, fun m hm => ?_, ao, b, off, cap, hs.hv, hs.ha, hs.hn, fun k m hm => (hs.hc k m hm).2⟩
  · rcases hl with ⟨_, rfl⟩ | ⟨el, sp, e, hel⟩
    · simp
    · rw [e] at hw
      have := (weights_slice Tryz.underlying27 hw).1
      rw [Tryz.bytesInts, hel, reachBytes] at this
      omega
  · obtain ⟨k, hk⟩ := List.mem_iff_getElem?.1 hm
    exact (hs.hc k m hk).1

set_option maxRecDepth 100000 in
/-- An argument of type api.Exec. -/
theorem open_exec {r : Reach} {b0 : Nat} {v : Value} {d : DataW H} {p : List MemPlace} (hv : Value.okWide Tryz.prog w r b0 29 v) (h : DataW.Trod enc Tryz.prog w 0 (fun _ => true) true 29 v d p)
    (hw : ∀ n ∈ d.weights Tryz.prog 29, n ≤ reachBytes) : ∃ (x : Exe) (vf vo : Value), v = .agg #[vf, vo] ∧ XFits x ∧ ExeC w vf vo x := by
  obtain ⟨c0, c1, y0, y1, n, rfl, rfl, rfl, h0, h1⟩ := Joins.open_agg2 Tryz.underlying29 (by kernel_rfl) Tryz.cellsExec hv h
  have hwe : ∀ n ∈ DataW.weightsEach Tryz.prog [26, 27] [y0.1, y1.1], n ≤ reachBytes := by
    intro n hn
    refine hw n ?_
    simp only [DataW.weights, Tryz.underlying29]
    exact hn
  obtain ⟨F, hF1, hF2⟩ := open_ints h0 (fun n hn => hwe n (DataW.weights_mem_each (j := 0) rfl rfl n hn))
  obtain ⟨L, hL1, hL2, hL3⟩ := open_lists h1 (fun n hn => hwe n (DataW.weights_mem_each (j := 1) rfl rfl n hn))
  exact ⟨⟨F, L⟩, c0, c1, rfl, ⟨hF1, hL1, hL2⟩, hF2.at', hL3⟩
end

end Go.Proofs.YtomijmikkbhgmaaGreat

namespace Go.Proofs.YtomijmikkbhgmaaGreat
open Go.RowKit

def cntI (op : Int) (l : List Ins) : Nat := (l.filter fun x => x.op == op).length
theorem cntI_yes {op : Int} {l : List Ins} {j : Nat} {x : Ins} (h : l[j]? = some x) (ho : (x.op == op) = true) : cntI op (l.take (j + 1)) = cntI op (l.take j) + 1 := by
  unfold cntI; rw [List.take_add_one, h, List.filter_append, List.length_append]; simp [ho]
theorem cntI_no {op : Int} {l : List Ins} {j : Nat} {x : Ins} (h : l[j]? = some x) (ho : (x.op == op) = false) : cntI op (l.take (j + 1)) = cntI op (l.take j) := by
  unfold cntI; rw [List.take_add_one, h, List.filter_append, List.length_append]; simp [ho]
theorem cntO_snoc (op : Int) (A : List (List Ins)) (l : List Ins) : cntO op (A ++ [l]) = cntO op A + cntI op l := by
  induction A with
  | nil => simp [cntO, cntI]
  | cons a A ih => rw [List.cons_append, cntO, cntO, ih]; unfold cntI; omega
theorem cntO_take {op : Int} {T : List (List Ins)} {k : Nat} {l : List Ins} (h : T[k]? = some l) : cntO op (T.take (k + 1)) = cntO op (T.take k) + cntI op l := by
  rw [List.take_add_one, h]; exact cntO_snoc op _ l

theorem wrap64_eq (n : Int) : wrap64 n = IntKind.i64.wrap n := by first | rfl | (unfold wrap64; rw [IntKind.wrap_i64])

/-- A number as an int holds it. -/
def wrp (n : Nat) : Int := IntKind.i64.wrap (n : Int)
theorem wrp_zero : wrp 0 = 0 := by unfold wrp; rw [IntKind.wrap_i64]; omega
theorem wrp_succ (n : Nat) : IntKind.i64.wrap (wrp n + 1) = wrp (n + 1) := by unfold wrp; rw [IntKind.wrap_i64, IntKind.wrap_i64, IntKind.wrap_i64]; omega
theorem wrp_small {n : Nat} (h : n ≤ 1000) : wrp n = (n : Int) := by unfold wrp; rw [IntKind.wrap_i64]; omega

def opnB (T : List (List Ins)) : Bool := wrp (cntO 5 T) == 0 || wrp (cntO 7 T) == 0

set_option maxRecDepth 20000 in
set_option maxHeartbeats 1000000 in
theorem open_any (T : List (List Ins)) (fa : Bool) (c : List Atm) (vt vc : Value) (w : World) (h : TestAt w (.agg #[vt, .bool fa, vc]) T fa c vt vc) :
    Calls Tryz.prog 9 #[.agg #[vt, .bool fa, vc]] w fun e w' => e = .returned (.bool (opnB T)) ∧ Below w.heap.size w w' := by
  obtain ⟨ht0, ao, b, off, cap, htv, hta, _, htc⟩ := h.ht.opened
  subst htv
  have HTC : Hid (∀ k l, T[k]? = some l → b < w.heap.size ∧ ∃ ao' cap', w.cell? ⟨b, off + k, none⟩ = some (.slice ao' l.length cap') ∧ InsAt w (.slice ao' l.length cap') l) := htc
  have HB : Hid (opnB T = (wrp (cntO 5 T) == 0 || wrp (cntO 7 T) == 0)) := rfl
  generalize opnB T = B at HB ⊢
  clear htc h
  go_enter Tryz.func9, Tryz.ntmps9
  go_wp2_with fail
  have hba := below_alloc w (.cells #[.slice ao T.length cap, .bool fa, vc] 25)
  have HT0 : Hid ((w.alloc (.cells #[.slice ao T.length cap, .bool fa, vc] 25)).cell? ⟨w.heap.size, 0, none⟩ = some (.slice ao T.length cap)) := by simp [Hid]
  generalize w.alloc (.cells #[.slice ao T.length cap, .bool fa, vc] 25) = W at hba HT0 ⊢
  go_loopw [3, 4, 5] (fun e s i wr => ∃ k : Nat, k ≤ T.length ∧ i = .int .i64 k ∧ e = .int .i64 (wrp (cntO 5 (T.take k))) ∧ s = .int .i64 (wrp (cntO 7 (T.take k))) ∧ wr = W) (fun _ _ i _ => T.length - (intOf i).toNat)
  case atStart => exact ⟨0, Nat.zero_le _, rfl, by rw [List.take_zero]; show _ = Value.int .i64 (wrp 0); rw [wrp_zero], by rw [List.take_zero]; show _ = Value.int .i64 (wrp 0); rw [wrp_zero], rfl⟩
  case round =>
    obtain ⟨k, hk, rfl, rfl, rfl, hwr⟩ := hrel
    subst hwr
    have t0 := HT0.out
    by_cases hlt : k < T.length
    · obtain ⟨l, hl⟩ := get_of_lt hlt
      obtain ⟨hbl, ao', cap', c0, hins⟩ := HTC.out k l hl
      obtain rfl := hta (ne_nil hlt)
      replace c0 := keep_cell hba c0
      obtain ⟨hl0, ao2, b2, off2, cap2, hs2⟩ := hins.keep hba
      have hv2 := hs2.hv
      simp only [Value.slice.injEq] at hv2
      obtain ⟨rfl, _, rfl⟩ := hv2
      have HL : Hid (∀ k x, l[k]? = some x → InsC wr b2 (off2 + k * 5) x) := hs2.hc
      have ha2 := hs2.ha
      have H5 : Hid (wrp (cntO 5 (T.take k)) = wrp (cntO 5 (T.take k) + cntI 5 (l.take 0)) ∧ wrp (cntO 7 (T.take k)) = wrp (cntO 7 (T.take k) + cntI 7 (l.take 0))) := ⟨by simp [cntI], by simp [cntI]⟩
      have H6 : Hid (cntO 5 (T.take (k + 1)) = cntO 5 (T.take k) + cntI 5 l ∧ cntO 7 (T.take (k + 1)) = cntO 7 (T.take k) + cntI 7 l) := ⟨cntO_take hl, cntO_take hl⟩
      generalize cntO 5 (T.take k) = n5 at H5 H6 ⊢
      generalize cntO 7 (T.take k) = n7 at H5 H6 ⊢
      have hkI : (k : Int) < (T.length : Int) := by omega
      clear hs2 hins hl
      go_wp2_with fail
      go_loopw [3, 4, 6] (fun e s i wr2 => ∃ j : Nat, j ≤ l.length ∧ i = .int .i64 j ∧ e = .int .i64 (wrp (n5 + cntI 5 (l.take j))) ∧ s = .int .i64 (wrp (n7 + cntI 7 (l.take j))) ∧ wr2 = wr) (fun _ _ i _ => l.length - (intOf i).toNat)
      case atStart => exact ⟨0, Nat.zero_le _, rfl, by rw [← H5.out.1], by rw [← H5.out.2], rfl⟩
      case round =>
        clear H5
        obtain ⟨j, hj, rfl, rfl, rfl, hwr⟩ := hrel
        subst hwr
        by_cases hjl : j < l.length
        · obtain ⟨y, hy⟩ := get_of_lt hjl
          obtain rfl := ha2 (ne_nil hjl)
          obtain ⟨y0, _, _, _, _⟩ := HL.out j y hy
          have hjI : (j : Int) < (l.length : Int) := by omega
          cases h5 : y.op == 5
          · cases h7 : y.op == 7
            · have HN : Hid (cntI 5 (l.take (j + 1)) = cntI 5 (l.take j) ∧ cntI 7 (l.take (j + 1)) = cntI 7 (l.take j)) := ⟨cntI_no hy h5, cntI_no hy h7⟩
              clear hy
              go_wp2_with fail
              go_roundw
              case measure => simp [intOf]; omega
              case rel => exact ⟨j + 1, by omega, by go_num, by rw [HN.out.1], by rw [HN.out.2], by first | rfl | trivial⟩
            · have HN : Hid (cntI 5 (l.take (j + 1)) = cntI 5 (l.take j) ∧ cntI 7 (l.take (j + 1)) = cntI 7 (l.take j) + 1) := ⟨cntI_no hy h5, cntI_yes hy h7⟩
              clear hy
              have HWR : Hid (IntKind.i64.wrap (wrp (n7 + cntI 7 (l.take j)) + 1) = wrp (n7 + cntI 7 (l.take (j + 1)))) := by rw [HN.out.2, ← Nat.add_assoc]; exact wrp_succ _
              generalize wrp (n7 + cntI 7 (l.take j)) = s7 at HWR ⊢
              go_wp2_with fail
              go_roundw
              case measure => simp [intOf]; omega
              case rel => exact ⟨j + 1, by omega, by go_num, by rw [HN.out.1], by rw [← HWR.out, wrap64_eq], by first | rfl | trivial⟩
          · have h7 : (y.op == 7) = false := by
              have : y.op = 5 := by simpa using h5
              rw [this]; rfl
            have HN : Hid (cntI 5 (l.take (j + 1)) = cntI 5 (l.take j) + 1 ∧ cntI 7 (l.take (j + 1)) = cntI 7 (l.take j)) := ⟨cntI_yes hy h5, cntI_no hy h7⟩
            clear hy
            have HWR : Hid (IntKind.i64.wrap (wrp (n5 + cntI 5 (l.take j)) + 1) = wrp (n5 + cntI 5 (l.take (j + 1)))) := by rw [HN.out.1, ← Nat.add_assoc]; exact wrp_succ _
            generalize wrp (n5 + cntI 5 (l.take j)) = s5 at HWR ⊢
            go_wp2_with fail
            go_roundw
            case measure => simp [intOf]; omega
            case rel => exact ⟨j + 1, by omega, by go_num, by rw [← HWR.out, wrap64_eq], by rw [HN.out.2], by first | rfl | trivial⟩
        · have htk : Hid (l.take j = l) := List.take_of_length_le (by omega)
          have hjI : (l.length : Int) ≤ (j : Int) := by omega
          go_wp2_with fail
          go_roundw
          case measure => simp [intOf]; omega
          case rel => exact ⟨k + 1, by omega, by go_num, by rw [H6.out.1, htk.out], by rw [H6.out.2, htk.out], by first | rfl | trivial⟩
    · have htk : T.take k = T := List.take_of_length_le (by omega)
      rw [htk]
      have hkI : (T.length : Int) ≤ (k : Int) := by omega
      generalize wrp (cntO 5 T) = e5 at HB ⊢
      generalize wrp (cntO 7 T) = e7 at HB ⊢
      cases h5 : e5 == 0
      · have HM : Hid (B = (e7 == 0)) := HB.out.trans (by rw [h5]; rfl)
        go_wp2_with fail
        go_ret
        exact ⟨by rw [HM.out]; rfl, hba⟩
      · have HM : Hid (B = true) := HB.out.trans (by rw [h5]; rfl)
        go_wp2_with fail
        go_ret
        exact ⟨by rw [HM.out]; rfl, hba⟩

theorem cntO_small {T : List (List Ins)} (hS : Short T) (op : Int) : cntO op T ≤ 48 := by
  have h : ∀ (T : List (List Ins)), (∀ l ∈ T, l.length ≤ 12) → cntO op T ≤ T.length * 12 := by
    intro T
    induction T with
    | nil => intro _; simp [cntO]
    | cons l T ih =>
      intro h
      have h1 := h l (List.mem_cons_self ..)
      have h2 := ih (fun m hm => h m (List.mem_cons_of_mem _ hm))
      have h3 := List.length_filter_le (fun x : Ins => x.op == op) l
      rw [cntO, List.length_cons, Nat.add_mul]
      omega
  have := h T hS.l12
  have := hS.t4
  omega

theorem open_opn {T : List (List Ins)} {c : List Atm} (h : opnB T = true) (hz : ((chk T c).1 == 0) = true) : openB T = true := by
  have hf := fits_of hz
  have h5 := cntO_small hf.short 5
  have h7 := cntO_small hf.short 7
  unfold opnB at h
  rw [wrp_small (by omega), wrp_small (by omega)] at h
  unfold openB
  simp at h ⊢
  omega

end Go.Proofs.YtomijmikkbhgmaaGreat
