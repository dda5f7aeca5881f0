import Derived.Test.YtomijmikkbhgmaaGreatT24
import Derived.Test.YtomijmikkbhgmaaGreatT23
import Derived.Test.YtomijmikkbhgmaaGreatT7
import Derived.Test.YtomijmikkbhgmaaGreatT11
import Derived.Test.YtomijmikkbhgmaaGreatT13
import Derived.Test.YtomijmikkbhgmaaGreatT1
namespace Go.Proofs.YtomijmikkbhgmaaGreat
open Go.RowKit

def cErr (T : List (List Ins)) (c : List Atm) (n : Int) : Int := if (chk T c).1 == 0 then (if 0 ≤ n ∧ n < (sizeN (evsT T 0) : Int) then 0 else 6) else (chk T c).1
def cExe (T : List (List Ins)) (c : List Atm) (n : Int) : Exe := if (chk T c).1 == 0 then (if 0 ≤ n ∧ n < (sizeN (evsT T 0) : Int) then exN (evsT T 0) n.toNat else ⟨[], []⟩) else ⟨[], []⟩

theorem chk_many_no {T : List (List Ins)} {c : List Atm} (h : ((chk T c).1 == 0) = true) : sizeN (evsT T 0) ≤ 2000 := by
  have hs := chk_zero h
  cases hi : insF T 0 with
  | some p => rw [chk_ins hs hi] at h; simp at h
  | none =>
    cases hn : nstF T 0 with
    | some p => rw [chk_nst hs hi hn] at h; simp at h
    | none =>
      cases ha : atmF c 0 T.length with
      | some p => rw [chk_atm hs hi hn ha] at h; simp at h
      | none =>
        cases hm : manyB T
        · unfold manyB at hm
          simp only [Bool.or_eq_false_iff, decide_eq_false_iff_not] at hm
          have := hm.2
          unfold cap2 at this
          split at this <;> omega
        · rw [chk_many hs hi hn ha hm] at h; simp at h

theorem exe_nil (w : World) : ExeAt w (.slice none 0 0) (.slice none 0 0) ⟨[], []⟩ :=
  ⟨(intAt_nil w 0).at', none, 0, 0, 0, rfl, fun h => absurd rfl h, fun _ => ⟨rfl, rfl⟩, fun k x h => by simp at h⟩

theorem ExeF.less {B B' : Nat} {w : World} {vf vo : Value} {x : Exe} (h : ExeF B w vf vo x) (hb : B' ≤ B) : ExeF B' w vf vo x := by
  obtain ⟨vs, ho, ha⟩ := h.o
  refine ⟨own_base h.f hb, vs, ⟨own_base ho.own hb, fun j y hy => ?_, ho.apart⟩, ha⟩
  obtain ⟨u, h1, h2⟩ := ho.rows j y hy
  exact ⟨u, h1, own_base h2 hb⟩
theorem exeF_nil (B : Nat) (w : World) : ExeF B w (.slice none 0 0) (.slice none 0 0) ⟨[], []⟩ :=
  ⟨World.ownsRow_nil _ _ _ _, [], LF.nil _ _, fun j u b h => by simp at h⟩

/-- Two cells that hold no numbers, and no third one: an execution doesn't lie there. -/
theorem exe_store {w w' : World} {vf vo : Value} {x : Exe} {R : Nat} (h : ExeAt w vf vo x) (h3 : x.order.length = 3) (hR : ∀ o z, w.cell? ⟨R, o, none⟩ = some z → z = .slice none 0 0 ∧ o < 2) (hk : ∀ b : Nat, b ≠ R → w'.heap[b]? = w.heap[b]?) : ExeAt w' vf vo x := by
  have hI : ∀ (u : Value) (l : List Int), IntAt w u l → IntAt w' u l := by
    intro u l hu
    obtain ⟨ao, b, off, cap, hv, ha, hn, hc⟩ := hu
    refine ⟨ao, b, off, cap, hv, ha, hn, fun k y hy => ?_⟩
    have hc1 := hc k y hy
    unfold IntC at hc1
    have hb : b ≠ R := fun e => by subst e; have := (hR _ _ hc1).1; cases this
    exact cell_heap (hk b hb) hc1
  refine ⟨hI _ _ h.f, ?_⟩
  obtain ⟨ao, b, off, cap, hv, ha, hn, hc⟩ := h.o
  refine ⟨ao, b, off, cap, hv, ha, hn, fun k y hy => ?_⟩
  have hb : b ≠ R := by
    obtain ⟨z, hz⟩ := get_of_lt (l := x.order) (k := 2) (by omega)
    obtain ⟨u, h1, _⟩ := hc 2 z hz
    intro e
    subst e
    have := (hR _ _ h1).2
    omega
  obtain ⟨u, h1, h2⟩ := hc k y hy
  exact ⟨u, cell_heap (hk b hb) h1, hI _ _ h2⟩

theorem nil_cells {w w3 : World} {x : Obj} {t : TypeId} (hb : Below (w.heap.size + 2) ((w.alloc x).alloc (.cells #[.slice none 0 0, .slice none 0 0] t)) w3) : ∀ o z, w3.cell? ⟨w.heap.size + 1, o, none⟩ = some z → z = .slice none 0 0 ∧ o < 2 := by
  intro o z hz
  rw [hb.cell (p := ⟨w.heap.size + 1, o, none⟩) (by simp)] at hz
  have e : w.heap.size + 1 = (w.alloc x).heap.size := by simp
  rw [e, cell_of_row _ _ o _ t (0, 0) (heap_alloc_new _ _)] at hz
  match o, hz with
  | 0, hz => simp at hz; exact ⟨hz.symm, by omega⟩
  | 1, hz => simp at hz; exact ⟨hz.symm, by omega⟩
  | o + 2, hz => simp at hz

set_option maxHeartbeats 2000000 in
theorem candP_own (T : List (List Ins)) (fa : Bool) (c : List Atm) (v vt vc : Value) (n : Int) (w : World) (h : TestAt w v T fa c vt vc) :
    Calls Tryz.prog 67 #[v, .int .i64 n] w fun e w' => ∃ vf vo, e = .returned (.tuple #[.agg #[vf, vo], .int .i64 (cErr T c n)]) ∧ ExeF w.heap.size w' vf vo (cExe T c n) ∧ Below w.heap.size w w' := by
  have HT : Hid (TestAt w v T fa c vt vc) := h
  obtain ⟨hv, _, _⟩ := h
  subst hv
  have HZ : Hid (((chk T c).1 == 0) = true → sizeB T c = true ∧ sizeN (evsT T 0) ≤ 2000) := fun h => ⟨chk_zero h, chk_many_no h⟩
  have HE : Hid (cErr T c n = if (chk T c).1 == 0 then (if 0 ≤ n ∧ n < (sizeN (evsT T 0) : Int) then 0 else 6) else (chk T c).1) := rfl
  have HX : Hid (cExe T c n = if (chk T c).1 == 0 then (if 0 ≤ n ∧ n < (sizeN (evsT T 0) : Int) then exN (evsT T 0) n.toNat else ⟨[], []⟩) else ⟨[], []⟩) := rfl
  generalize hq : chk T c = q at HZ HE HX
  have HQ : Hid (chk T c = q) := hq
  clear hq
  generalize cErr T c n = er at HE
  generalize cExe T c n = ex at HX
  go_enter Tryz.func67, Tryz.ntmps67
  go_wp2_with fail
  refine (find_any T fa c _ vt vc _ (HT.out.keep (below_two _ _ _))).mono ?_
  rw [HQ.out]
  rintro e w3 ⟨rfl, hb3⟩
  unfold fault2
  simp only [World.size_alloc] at hb3
  obtain ⟨g0, g1, g2, d0, d1, f0, f1, s2, s3⟩ := own5 hb3
  have hbw3 : Below w.heap.size w w3 := (below_two _ _ _).trans (hb3.mono (by omega))
  clear hb3 g1 g2
  cases hz : q.1 == 0
  · have hz2 : (q.1 != 0) = true := by simp [bne, hz]
    have HE2 : Hid (er = q.1) := HE.out.trans (by rw [hz]; rfl)
    have HX2 : Hid (ex = ⟨[], []⟩) := HX.out.trans (by rw [hz]; rfl)
    clear HE HX
    go_wp2_with fail
    go_region
    all_goals
      go_wp2_with fail
      refine bodyPost_ret (v := .tuple #[.agg #[.slice none 0 0, .slice none 0 0], .int .i64 q.1]) (by simp [results, Tryz.results67, go_sem, *]) rfl ⟨_, _, by rw [HE2.out], by rw [HX2.out]; exact exeF_nil _ _, ?_⟩
      exact Below.drew ((((hbw3.setCell (by simp) _).setCell (by simp) _).alloc (by simp [World.setCell]; omega) _))
  · have hz2 : (q.1 != 0) = false := by simp [bne, hz]
    have hq0 : q.1 = 0 := by simpa using hz
    obtain ⟨hsb, hN⟩ := HZ.out hz
    obtain ⟨h2, hL, _⟩ := sizeB_parts hsb
    have HL : Hid (lensB T = true) := hL
    have hEl : (evsT T 0).length ≤ 96 := by have := evsT_len T 0 HL.out; omega
    have HE2 : Hid (er = if 0 ≤ n ∧ n < (sizeN (evsT T 0) : Int) then 0 else 6) := HE.out.trans (by rw [hz]; rfl)
    have HX2 : Hid (ex = if 0 ≤ n ∧ n < (sizeN (evsT T 0) : Int) then exN (evsT T 0) n.toNat else ⟨[], []⟩) := HX.out.trans (by rw [hz]; rfl)
    clear HE HX hL hq0 hsb
    go_wp2_with fail
    refine (list_any T vt _ (HT.out.ht.keep (hbw3.alloc hbw3.size _)) h2 HL.out).mono ?_
    generalize evsT T 0 = E at hEl hN HE2 HX2
    rintro e w5 ⟨u, rfl, hu, hb5⟩
    have k5 := below_more (below_alloc w3 _) hb5
    have hbw5 := below_more hbw3 k5
    replace d0 := keep_cell k5 d0
    replace d1 := keep_cell k5 d1
    replace f0 := (k5.frozen (p := ⟨w.heap.size + 1, 0, none⟩) s3).trans f0
    replace f1 := (k5.frozen (p := ⟨w.heap.size + 1, 1, none⟩) s3).trans f1
    have s5 : w.heap.size + 1 < w5.heap.size := by have := k5.size; omega
    clear hb5 k5 g0 s3
    by_cases hn : 0 ≤ n ∧ n < (sizeN E : Int)
    · obtain ⟨n', hn'⟩ := Int.eq_ofNat_of_zero_le hn.1
      subst hn'
      have HE3 : Hid (er = 0) := HE2.out.trans (if_pos hn)
      have HX3 : Hid (ex = exN E n') := HX2.out.trans (by rw [if_pos hn]; simp)
      have hlt : n' < sizeN E := by omega
      clear HE2 HX2 hn
      go_wp2_with fail
      refine (nth_own E hEl u n' _ hu hlt hN).mono ?_
      rintro e w6 ⟨vf, vo, rfl, hx, hb6⟩
      have hbw6 := below_more hbw5 hb6
      replace d0 := keep_cell hb6 d0
      replace d1 := keep_cell hb6 d1
      replace f0 := (hb6.frozen (p := ⟨w.heap.size + 1, 0, none⟩) s5).trans f0
      replace f1 := (hb6.frozen (p := ⟨w.heap.size + 1, 1, none⟩) s5).trans f1
      obtain ⟨aof, cf, hff⟩ := hx.new.at'.f.form
      obtain ⟨aoo, bo, oo, co, hso⟩ := hx.new.at'.o
      have hfo := hso.hv
      subst hff hfo
      have HXX : Hid (ExeF w5.heap.size w6 (.slice aof (exN E n').from'.length cf) (.slice aoo (exN E n').order.length co) (exN E n')) := hx
      generalize hl1 : (exN E n').from'.length = l1 at HXX
      generalize hl2 : (exN E n').order.length = l2 at HXX
      clear hx hso hb6 hl1 hl2
      go_wp2_with fail
      refine bodyPost_ret (v := .tuple #[.agg #[.slice aof l1 cf, .slice aoo l2 co], .int .i64 0]) (by simp [results, Tryz.results67, go_sem, *]) rfl ⟨_, _, by rw [HE3.out], ?_, ?_⟩
      · rw [HX3.out]
        refine (HXX.out.other fun b hb1 hb2 => ?_).less hbw5.size
        have hne : b ≠ w.heap.size + 1 := by omega
        rw [Below.heap_setCell _ _ _ _ hne, Below.heap_setCell _ _ _ _ hne]
      · exact (hbw6.setCell (by simp) _).setCell (by simp) _
    · have HE3 : Hid (er = 6) := HE2.out.trans (if_neg hn)
      have HX3 : Hid (ex = ⟨[], []⟩) := HX2.out.trans (if_neg hn)
      clear HE2 HX2
      go_wp2_with fail
      refine (nth_no E hEl u n _ hu (by omega) hN).mono ?_
      rintro e w6 ⟨rfl, hb6⟩
      unfold noExe
      have hbw6 := below_more hbw5 hb6
      replace d0 := keep_cell hb6 d0
      replace d1 := keep_cell hb6 d1
      replace f0 := (hb6.frozen (p := ⟨w.heap.size + 1, 0, none⟩) s5).trans f0
      replace f1 := (hb6.frozen (p := ⟨w.heap.size + 1, 1, none⟩) s5).trans f1
      clear hb6
      go_wp2_with fail
      refine bodyPost_ret (v := .tuple #[.agg #[.slice none 0 0, .slice none 0 0], .int .i64 6]) (by simp [results, Tryz.results67, go_sem, *]) rfl ⟨_, _, by rw [HE3.out], by rw [HX3.out]; exact exeF_nil _ _, ?_⟩
      exact (hbw6.setCell (by simp) _).setCell (by simp) _

end Go.Proofs.YtomijmikkbhgmaaGreat

namespace Go.Proofs.YtomijmikkbhgmaaGreat
open Go.RowKit

theorem own_full {w : World} {base : Nat} {e : TypeId} {s g n cap : Nat} {xs : List Value} (h : w.ownsRow base e s (.slice (some ⟨g, 0, none⟩) n cap) n xs) : ∃ ys, w.ownsRow base e s (.slice (some ⟨g, 0, none⟩) cap cap) cap ys ∧ cap ≤ 9223372036854775807 := by
  rcases h.2 with ⟨h', _⟩ | ⟨g', cap', cur, h', hb, hg, hnc, hcm, hcs, htake⟩
  · simp at h'
  · simp only [Value.slice.injEq, Option.some.injEq, Addr.mk.injEq, and_true, true_and] at h'
    obtain ⟨rfl, rfl⟩ := h'
    exact ⟨cur.toList, ⟨by simpa using hcs, .inr ⟨g, cap, cur, rfl, hb, hg, Nat.le_refl _, hcm, hcs, List.take_of_length_le (by simp [hcs])⟩⟩, hcm⟩

theorem only_grown {g : Nat} {w w' : World} (h : w.grownBy w' (some g)) : Only g w w' := ⟨h.os, h.tape, h.output, h.size, fun k hk hn => h.block k hk (fun e => hn (by cases e; rfl))⟩

/-- The cells of World's struct. -/
theorem WM.cells {b0 : Nat} {w : World} {R : Nat} {vts vxs : Value} {N : Nat} {V : Nat → Value} {F : Nat → List Value} {MB P : Nat → Prop} (h : WM b0 w R vts vxs N V F MB P) : w.cell? ⟨R, 0, none⟩ = some vts ∧ w.cell? ⟨R, 1, none⟩ = some vxs ∧ w.cell? ⟨R, 2, none⟩ = some (V 0) ∧ w.cell? ⟨R, 3, none⟩ = some (V 1) ∧ w.cell? ⟨R, 4, none⟩ = some (V 2) ∧ w.cell? ⟨R, 5, none⟩ = some (V 3) ∧ ∀ o, w.frozen? ⟨R, o, none⟩ = false := by
  refine ⟨?_, ?_, ?_, ?_, ?_, ?_, fun o => frozen_of_row _ _ _ _ _ h.blk⟩ <;> rw [cell_of_row _ _ _ _ _ _ h.blk] <;> rfl

theorem hid {p : Prop} (h : p) : Hid p := h

/-- A list has been taken in. -/
structure Took (b0 : Nat) (w w' : World) (R : Nat) (vts vxs : Value) (N : Nat) (P P' : Nat → Prop) : Prop where
  wm : ∃ V F MB, WM b0 w' R vts vxs N V F MB P'
  frm : Frm b0 P' w w'
  sub : ∀ b, P' b → P b

/-- A list was written full by its owner, and stands in its row now. -/
theorem WM.took {b0 : Nat} {w wr w2 : World} {R : Nat} {vts vxs : Value} {N : Nat} {V : Nat → Value} {F : Nat → List Value} {MB P : Nat → Prop} (h : WM b0 w R vts vxs N V F MB P) {g : Nat} (hg : P g) (hO : Only g w wr) {c : Nat} (hc : c < 4) {f v' : Value} {o : Obj} (hf : Mark c (fun b => b = g ∨ (w.heap.size ≤ b ∧ b < wr.heap.size)) wr f (-1000 - ((F c).length : Int))) (hown : w2.ownsRow b0 (tyW c) 1 v' ((F c).length + 1) (F c ++ [f])) (hgr : (wr.alloc o).grownBy w2 (V c).ownBlock) (hap : ∀ g, v'.ownBlock = some g → (V c).ownBlock = some g ∨ wr.heap.size + 1 ≤ g) :
    Took b0 w (w2.setCell ⟨R, 2 + c, none⟩ v') R vts vxs (N + 1) P (fun b => P b ∧ b ≠ g) ∧ w2.heap[R]? = some (.cells #[vts, vxs, V 0, V 1, V 2, V 3] 40 (0, 0)) := by
  have hW := h.grow hO.size fun b hb hp => hO.block b hb fun e => hp (by rw [e]; exact hg)
  obtain ⟨k1, k2, k3⟩ := hW.app (Q := fun b => b = g ∨ (w.heap.size ≤ b ∧ b < wr.heap.size)) (fun b hb => hb.elim (fun e => .inl (by rw [e]; exact hg)) .inr) hc (hf.other (fun b q => .inr q) fun _ _ => rfl) hown hgr hap
  refine ⟨⟨⟨_, _, _, k1.le (Nat.le_refl _) fun b hb => ⟨.inl hb.1, fun q => ?_⟩⟩, ⟨?_, fun b hb => (k2.same b (.inl hb.1)).trans (hO.block b (h.pend b hb.1).2.1 hb.2)⟩, fun b hb => hb.1⟩, k3⟩
  · have := (h.pend b hb.1).2.1
    rcases q with q | q
    · exact hb.2 q
    · omega
  · have := h.pend g hg
    exact (hO.below (by omega) (by omega)).trans k2.below
/-- So was one that has no room at all. -/
theorem WM.took0 {b0 : Nat} {w w2 : World} {R : Nat} {vts vxs : Value} {N : Nat} {V : Nat → Value} {F : Nat → List Value} {MB P : Nat → Prop} (h : WM b0 w R vts vxs N V F MB P) {c : Nat} (hc : c < 4) {v' : Value} {o : Obj} (hown : w2.ownsRow b0 (tyW c) 1 v' ((F c).length + 1) (F c ++ [.slice none 0 0])) (hgr : (w.alloc o).grownBy w2 (V c).ownBlock) (hap : ∀ g, v'.ownBlock = some g → (V c).ownBlock = some g ∨ w.heap.size + 1 ≤ g) :
    Took b0 w (w2.setCell ⟨R, 2 + c, none⟩ v') R vts vxs (N + 1) P P ∧ w2.heap[R]? = some (.cells #[vts, vxs, V 0, V 1, V 2, V 3] 40 (0, 0)) := by
  obtain ⟨k1, k2, k3⟩ := h.app (Q := fun _ => False) (fun b hb => hb.elim) hc (f := .slice none 0 0) ⟨0, [], World.ownsRow_nil _ _ _ _, ⟨none, rfl⟩, (fun g hg => by simp [Value.ownBlock] at hg), by unfold MarkC; simp⟩ hown hgr hap
  exact ⟨⟨⟨_, _, _, k1.le (Nat.le_refl _) fun b hb => ⟨hb, fun q => q⟩⟩, k2, fun b hb => hb⟩, k3⟩

/-- A list, written with its mark so far. -/
structure Fil (c B : Nat) (w wr : World) (g cap k : Nat) (m : Int) : Prop where
  row : ∃ zs, wr.ownsRow B (elW c) (szW c) (.slice (some ⟨g, 0, none⟩) cap cap) cap zs ∧ MarkC c (fun b => b = g ∨ (w.heap.size ≤ b ∧ b < wr.heap.size)) wr zs k m
  only : Only g w wr
theorem Fil.mark {c B : Nat} {w wr : World} {g k : Nat} {m : Int} (h : Fil c B w wr g k k m) : Mark c (fun b => b = g ∨ (w.heap.size ≤ b ∧ b < wr.heap.size)) wr (.slice (some ⟨g, 0, none⟩) k k) m := by
  obtain ⟨zs, h1, h2⟩ := h.row
  exact ⟨k, zs, own_base h1 (Nat.zero_le _), ⟨_, rfl⟩, fun b hb => .inl (by simpa [Value.ownBlock] using hb.symm), h2⟩
theorem Fil.zero {c B : Nat} {w : World} {g cap : Nat} {ys : List Value} (h : w.ownsRow B (elW c) (szW c) (.slice (some ⟨g, 0, none⟩) cap cap) cap ys) (m : Int) : Fil c B w w g cap 0 m := ⟨⟨ys, h, by unfold MarkC; simp⟩, Only.refl _ _⟩
/-- What may be written next. -/
theorem Fil.next {c B : Nat} {w wr : World} {g cap k : Nat} {m : Int} (h : Fil c B w wr g cap k m) (hk : k < cap) (j : Nat) (hj : j < szW c) : (∃ z, wr.cell? ⟨g, k * szW c + j, none⟩ = some z) ∧ wr.frozen? ⟨g, k * szW c + j, none⟩ = false := by
  obtain ⟨zs, h1, _⟩ := h.row
  have hle : (k + 1) * szW c ≤ cap * szW c := Nat.mul_le_mul_right _ hk
  rw [Nat.add_mul, Nat.one_mul] at hle
  have hlt : k * szW c + j < cap * szW c := by omega
  obtain ⟨z, hz⟩ := get_of_lt (l := zs) (k := k * szW c + j) (by rw [h1.1]; exact hlt)
  exact ⟨⟨z, by rw [h1.cellAt _ hlt]; exact hz⟩, h1.frozenAt _⟩

/-- A list was written full. -/
def Wrote (c B : Nat) (w wr : World) (l f : Value) (m : Int) : Prop := (∃ cap g, f = .slice (some ⟨g, 0, none⟩) cap cap ∧ (∃ n, l = .slice (some ⟨g, 0, none⟩) n cap) ∧ Fil c B w wr g cap cap m) ∨ (l = .slice none 0 0 ∧ f = .slice none 0 0 ∧ wr = w)
theorem Wrote.some {c B : Nat} {w wr : World} {g cap : Nat} {m : Int} (h : Fil c B w wr g cap cap m) (n : Nat) : Wrote c B w wr (.slice (some ⟨g, 0, none⟩) n cap) (.slice (some ⟨g, 0, none⟩) cap cap) m := .inl ⟨cap, g, rfl, ⟨n, rfl⟩, h⟩
theorem Wrote.none (c B : Nat) (w : World) (m : Int) : Wrote c B w w (.slice none 0 0) (.slice none 0 0) m := .inr ⟨rfl, rfl, rfl⟩

theorem Fil.put0 {B : Nat} {w wr : World} {g cap k : Nat} {m : Int} (h : Fil 0 B w wr g cap k m) (hk : k < cap) : Fil 0 B w (wr.setCell ⟨g, k, none⟩ (.int .i64 m)) g cap (k + 1) m := by
  obtain ⟨zs, h1, h2⟩ := h.row
  have hl : zs.length = cap * 1 := h1.1
  obtain ⟨q1, q2⟩ := h1.stored k (.int .i64 m)
  refine ⟨⟨_, q1, ?_⟩, h.only.trans (only_grown q2)⟩
  unfold MarkC at *
  rw [if_pos rfl] at *
  intro j hj
  by_cases e : j = k
  · subst e; rw [List.getElem?_set_self (by omega)]
  · rw [List.getElem?_set_ne (fun h => e h.symm)]
    exact h2 j (by omega)
theorem Fil.put2 {B : Nat} {w wr : World} {g cap k : Nat} {m : Int} (h : Fil 2 B w wr g cap k m) (hk : k < cap) : Fil 2 B w ((((wr.setCell ⟨g, k * 4, none⟩ (.int .i64 0)).setCell ⟨g, k * 4 + 1, none⟩ (.int .i64 m)).setCell ⟨g, k * 4 + 2, none⟩ (.int .i64 0)).setCell ⟨g, k * 4 + 3, none⟩ (.int .i64 0)) g cap (k + 1) m := by
  obtain ⟨zs, h1, h2⟩ := h.row
  have hl : zs.length = cap * 4 := h1.1
  obtain ⟨q1, q2⟩ := h1.stored (k * 4) (.int .i64 0)
  obtain ⟨r1, r2⟩ := q1.stored (k * 4 + 1) (.int .i64 m)
  obtain ⟨s1, s2⟩ := r1.stored (k * 4 + 2) (.int .i64 0)
  obtain ⟨t1, t2⟩ := s1.stored (k * 4 + 3) (.int .i64 0)
  refine ⟨⟨_, t1, ?_⟩, (((h.only.trans (only_grown q2)).trans (only_grown r2)).trans (only_grown s2)).trans (only_grown t2)⟩
  unfold MarkC at *
  rw [if_neg (by decide), if_neg (by decide), if_pos rfl] at *
  intro j hj
  by_cases e : j = k
  · subst e
    refine ⟨?_, ?_, ?_, ?_⟩ <;> simp [List.getElem?_set] <;> omega
  · obtain ⟨p0, p1, p2, p3⟩ := h2 j (by omega)
    refine ⟨?_, ?_, ?_, ?_⟩ <;> (repeat rw [List.getElem?_set_ne (by omega)]) <;> assumption
theorem Fil.put3 {B : Nat} {w wr : World} {g cap k : Nat} {m : Int} (h : Fil 3 B w wr g cap k m) (hk : k < cap) : Fil 3 B w ((wr.setCell ⟨g, k * 2, none⟩ (.slice none 0 0)).setCell ⟨g, k * 2 + 1, none⟩ (.int .i64 m)) g cap (k + 1) m := by
  obtain ⟨zs, h1, h2⟩ := h.row
  have hl : zs.length = cap * 2 := h1.1
  obtain ⟨q1, q2⟩ := h1.stored (k * 2) (.slice none 0 0)
  obtain ⟨r1, r2⟩ := q1.stored (k * 2 + 1) (.int .i64 m)
  refine ⟨⟨_, r1, ?_⟩, (h.only.trans (only_grown q2)).trans (only_grown r2)⟩
  unfold MarkC at *
  rw [if_neg (by decide), if_neg (by decide), if_neg (by decide)] at *
  intro j hj
  by_cases e : j = k
  · subst e
    refine ⟨?_, ?_⟩ <;> simp [List.getElem?_set] <;> omega
  · obtain ⟨p0, p1⟩ := h2 j (by omega)
    refine ⟨?_, ?_⟩ <;> (repeat rw [List.getElem?_set_ne (by omega)]) <;> assumption
theorem Fil.put1 {B : Nat} {w wr : World} {g cap k : Nat} {m : Int} (h : Fil 1 B w wr g cap k m) (hk : k < cap) (hgs : g < w.heap.size) : Fil 1 B w ((wr.alloc (.cells #[.int .i64 m] 3)).setCell ⟨g, k, none⟩ (.slice (some ⟨wr.heap.size, 0, none⟩) 1 1)) g cap (k + 1) m := by
  obtain ⟨zs, h1, h2⟩ := h.row
  have hl : zs.length = cap * 1 := h1.1
  have hsz := h.only.size
  have hA := below_alloc wr (.cells #[.int .i64 m] 3)
  obtain ⟨q1, q2⟩ := (own_keep h1 hA).stored k (.slice (some ⟨wr.heap.size, 0, none⟩) 1 1)
  have hO := (h.only.trans (Only.of_below hA)).trans (only_grown q2)
  refine ⟨⟨_, q1, ?_⟩, hO⟩
  have hsame : ∀ b, b < wr.heap.size + 1 → b ≠ g → ((wr.alloc (.cells #[.int .i64 m] 3)).setCell ⟨g, k, none⟩ (.slice (some ⟨wr.heap.size, 0, none⟩) 1 1)).heap[b]? = (wr.alloc (.cells #[.int .i64 m] 3)).heap[b]? := fun b _ hn => Below.heap_setCell _ _ _ _ hn
  unfold MarkC at *
  rw [if_neg (by decide), if_pos rfl] at *
  intro j hj
  by_cases e : j = k
  · subst e
    refine ⟨wr.heap.size, by rw [List.getElem?_set_self (by omega)], .inr ⟨hsz, by simp [World.setCell]⟩, ?_⟩
    rw [hsame _ (by omega) (by omega)]
    exact heap_alloc_new _ _
  · obtain ⟨x, p0, p1, p2⟩ := h2 j (by omega)
    rw [List.getElem?_set_ne (fun h => e h.symm)]
    have hx : x ≠ g := fun e => by
      obtain ⟨cur, q⟩ := own_ty h1 (b := g) rfl
      rw [← e, p2] at q
      injection q with q
      injection q with _ q2
      exact absurd q2 (by decide)
    have hxl := heap_ltA p2
    exact ⟨x, p0, p1.imp id fun q => ⟨q.1, by simp [World.setCell]; omega⟩, by rw [hsame x (by omega) hx, Below.heap_alloc _ _ _ hxl]; exact p2⟩

theorem WM.wrote {b0 : Nat} {w wr w2 : World} {R : Nat} {vts vxs : Value} {N : Nat} {V : Nat → Value} {F : Nat → List Value} {MB P : Nat → Prop} (h : WM b0 w R vts vxs N V F MB P) {c B : Nat} (hc : c < 4) {l f v' : Value} {o : Obj} (hf : Wrote c B w wr l f (-1000 - ((F c).length : Int))) (hP : ∀ b, l.ownBlock = some b → P b) (ho : w2.ownsRow b0 (tyW c) 1 v' ((F c).length + 1) (F c ++ [f])) (hg : (wr.alloc o).grownBy w2 (V c).ownBlock) (hap : ∀ g, v'.ownBlock = some g → (V c).ownBlock = some g ∨ wr.heap.size + 1 ≤ g) :
    Took b0 w (w2.setCell ⟨R, 2 + c, none⟩ v') R vts vxs (N + 1) P (fun b => P b ∧ l.ownBlock ≠ some b) ∧ w2.heap[R]? = some (.cells #[vts, vxs, V 0, V 1, V 2, V 3] 40 (0, 0)) := by
  rcases hf with ⟨cap, g, rfl, ⟨n, rfl⟩, hF⟩ | ⟨rfl, rfl, rfl⟩
  · obtain ⟨k1, k2⟩ := h.took (hP g rfl) hF.only hc hF.mark ho hg hap
    have hsub : ∀ b, (P b ∧ (Value.slice (some ⟨g, 0, none⟩) n cap).ownBlock ≠ some b) → P b ∧ b ≠ g := fun b hb => ⟨hb.1, fun e => hb.2 (by rw [e]; rfl)⟩
    obtain ⟨V', F', MB', q⟩ := k1.wm
    exact ⟨⟨⟨V', F', MB', q.le (Nat.le_refl _) hsub⟩, k1.frm.less hsub, fun b hb => hb.1⟩, k2⟩
  · obtain ⟨k1, k2⟩ := h.took0 hc ho hg hap
    obtain ⟨V', F', MB', q⟩ := k1.wm
    exact ⟨⟨⟨V', F', MB', q.le (Nat.le_refl _) fun b hb => hb.1⟩, k1.frm.less fun b hb => hb.1, fun b hb => hb.1⟩, k2⟩

theorem Tryz.infoRows0 : (Tryz.prog.info? 26).map (fun i => (i.zero, i.size, i.bytes)) = some (some (.slice none 0 0), 1, 24) := by kernel_rfl

set_option maxRecDepth 20000 in
set_option maxHeartbeats 2000000 in
theorem mine_any (b0 : Nat) (R : Nat) (vts vxs : Value) (N : Nat) (V : Nat → Value) (F : Nat → List Value) (MB P : Nat → Prop) (w : World) (h : WM b0 w R vts vxs N V F MB P) (hN : N ≤ 1000000000000) (B : Nat) (l : Value) (n : Nat) (xs : List Value) (hl : w.ownsRow B 3 1 l n xs) (hP : ∀ b, l.ownBlock = some b → P b) :
    Calls Tryz.prog 58 #[.pointer (some ⟨R, 0, none⟩), l] w fun e w' => ∃ r, e = .returned r ∧ Took b0 w w' R vts vxs (N + 1) P (fun b => P b ∧ l.ownBlock ≠ some b) := by
  obtain ⟨i0, hi, hz0, hz1, hz2⟩ := info_parts Tryz.infoRows0
  have HI : Hid (Tryz.prog.info? 26 = some i0 ∧ i0.zero = some (.slice none 0 0) ∧ i0.size = 1 ∧ i0.bytes = 24) := ⟨hi, hz0, hz1, hz2⟩
  clear hi hz0 hz1 hz2
  have hlen := h.len 0 (by omega)
  obtain ⟨aoV, capV, hV0, _⟩ := own_form (h.own 0 (by omega))
  have HTK : Hid (∀ (wr w2 : World) (o : Obj) (f v' : Value), w2.ownsRow b0 26 1 v' ((F 0).length + 1) (F 0 ++ [f]) → (wr.alloc o).grownBy w2 (Value.slice aoV (F 0).length capV).ownBlock → (∀ g, v'.ownBlock = some g → (Value.slice aoV (F 0).length capV).ownBlock = some g ∨ wr.heap.size + 1 ≤ g) → Wrote 0 B w wr l f (-1000 - ((F 0).length : Int)) → Took b0 w (w2.setCell ⟨R, 2, none⟩ v') R vts vxs (N + 1) P (fun b => P b ∧ l.ownBlock ≠ some b) ∧ w2.cell? ⟨R, 2, none⟩ = some (V 0) ∧ w2.frozen? ⟨R, 2, none⟩ = false) := by
    intro wr w2 o f v' ho hg hap hf
    rw [← hV0] at hg hap
    obtain ⟨k1, k2⟩ := h.wrote (c := 0) (by omega) hf hP ho hg hap
    exact ⟨k1, by rw [cell_of_row _ _ _ _ _ _ k2]; rfl, frozen_of_row _ _ _ _ _ k2⟩
  have HOW : Hid (w.ownsRow b0 26 1 (.slice aoV (F 0).length capV) (F 0).length (F 0) ∧ b0 ≤ w.heap.size) := by
    have := h.own 0 (by omega)
    rw [hV0] at this
    exact ⟨this, by have := h.lo; have := heap_ltA h.blk; omega⟩
  obtain ⟨_, _, c2, _⟩ := h.cells
  rw [hV0] at c2 HTK
  rcases hl.2 with ⟨rfl, rfl⟩ | ⟨g, cap, cur, rfl, _, _, hnc, _⟩
  · have hb0 := HOW.out.2
    clear h hl hP hV0
    go_enter Tryz.func58, Tryz.ntmps58
    go_wp2_with fail
    go_loopw [5] (fun i wr => i = .int .i64 0 ∧ wr = w) (fun _ _ => 0)
    case atStart => exact ⟨rfl, rfl⟩
    case round =>
      obtain ⟨rfl, rfl⟩ := hrel
      go_wp2_with (at_builtin; refine append_new _ rfl _ _ 27 rfl b0 26 i0 (.slice none 0 0) 1 24 Tryz.underlying27 HI.out.1 HI.out.2.1 HI.out.2.2.1 HI.out.2.2.2 rfl (by decide) (.slice aoV (F 0).length capV) (F 0).length (F 0) rfl (HOW.out.1.alloc _) (some ⟨wr.heap.size, 0, none⟩) 1 1 [.slice none 0 0] rfl (fun h => by cases h) rfl (fun ad had => by cases had; exact new_one rfl) (by simp [Value.oneCell']) (by unfold maxLen; omega) (by omega) (by simp; omega) ?_)
      intro V8 w8 hown8 hgrow8 hap8
      obtain ⟨ao8, cap8, hf8, _⟩ := own_form hown8
      subst hf8
      obtain ⟨hK, d2, g2⟩ := HTK.out _ _ _ _ _ hown8 hgrow8 hap8 (Wrote.none _ B _ _)
      have HK := hid hK
      clear hK hown8 hgrow8 hap8 HTK
      go_wp2_with fail
      exact bodyPost_end (v := .tuple #[]) (results_none rfl _ _ _) rfl ⟨_, rfl, HK.out⟩
  · obtain ⟨ys, hys, hcm⟩ := own_full hl
    obtain ⟨_, hgl, _, hgR, hgV⟩ := h.pend g (hP g rfl)
    have HG : Hid (∀ wr, Only g w wr → wr.ownsRow b0 26 1 (.slice aoV (F 0).length capV) (F 0).length (F 0) ∧ b0 ≤ wr.heap.size) := fun wr hO => ⟨own_only HOW.out.1 hO (fun b hb e => hgV 0 (by omega) (by rw [hV0, ← e]; exact hb)), Nat.le_trans HOW.out.2 hO.size⟩
    have HY : Hid (Fil 0 B w w g cap 0 (-1000 - ((F 0).length : Int))) := Fil.zero hys _
    have hL0 : ((F 0).length : Int) ≤ 1000000000000 := by omega
    clear h hl hP hys HOW hgV hV0
    go_enter Tryz.func58, Tryz.ntmps58
    go_wp2_with fail
    go_loopw [5] (fun i wr => ∃ k : Nat, k ≤ cap ∧ i = .int .i64 k ∧ Hid (Fil 0 B w wr g cap k (-1000 - ((F 0).length : Int)))) (fun i _ => cap - (intOf i).toNat)
    case atStart => exact ⟨0, Nat.zero_le _, rfl, HY.out⟩
    case round =>
      clear HY
      obtain ⟨k, hk, rfl, hh⟩ := hrel
      have e2 := hh.out.only.cell c2 (fun e => hgR e.symm)
      by_cases hlt : k < cap
      · obtain ⟨⟨z, hc⟩, hfr⟩ := hh.out.next hlt 0 (by decide)
        have hc0 : wr.cell? ⟨g, k, none⟩ = some z := by simpa [szW] using hc
        have hf0 : wr.frozen? ⟨g, k, none⟩ = false := by simpa [szW] using hfr
        have HN1 := hid (hh.out.put0 hlt)
        have hkI : (k : Int) < (cap : Int) := by omega
        clear hh hc hfr
        go_wp2_with fail
        go_roundw
        case measure => simp [intOf]; omega
        case rel => exact ⟨k + 1, by omega, by go_num, HN1.out⟩
      · have hkc : k = cap := by omega
        subst hkc
        obtain ⟨hOr, hb0⟩ := HG.out wr hh.out.only
        have HOr := hid hOr
        clear hOr
        go_wp2_with (at_builtin; refine append_new _ rfl _ _ 27 rfl b0 26 i0 (.slice none 0 0) 1 24 Tryz.underlying27 HI.out.1 HI.out.2.1 HI.out.2.2.1 HI.out.2.2.2 rfl (by decide) (.slice aoV (F 0).length capV) (F 0).length (F 0) rfl (HOr.out.alloc _) (some ⟨wr.heap.size, 0, none⟩) 1 1 [.slice (some ⟨g, 0, none⟩) k k] rfl (fun h => by cases h) rfl (fun ad had => by cases had; exact new_one rfl) (by simp [Value.oneCell']) (by unfold maxLen; omega) (by omega) (by simp; omega) ?_)
        intro V8 w8 hown8 hgrow8 hap8
        obtain ⟨ao8, cap8, hf8, _⟩ := own_form hown8
        subst hf8
        obtain ⟨hK, d2, g2⟩ := HTK.out _ _ _ _ _ hown8 hgrow8 hap8 (Wrote.some hh.out n)
        have HK := hid hK
        clear hK hown8 hgrow8 hap8 HTK hh HOr
        go_wp2_with fail
        exact bodyPost_end (v := .tuple #[]) (results_none rfl _ _ _) rfl ⟨_, rfl, HK.out⟩

end Go.Proofs.YtomijmikkbhgmaaGreat

namespace Go.Proofs.YtomijmikkbhgmaaGreat

/-- The value of an event, by no more than so many steps. -/
def valN (E : List Evt) (S : Nat → Int) : Nat → Int → Int
  | 0, _ => 0
  | d + 1, i => if i < 0 then 0 else match E[i.toNat]? with
    | none => 0
    | some y => if y.kind == 0 then valN E S d (S i.toNat) else if y.ins.op == 1 then valN E S d (srcG y (E.take i.toNat) 0 (-1)) else y.ins.val

theorem valN_neg (E : List Evt) (S : Nat → Int) (d : Nat) {i : Int} (h : i < 0) : valN E S d i = 0 := by
  cases d with
  | zero => rfl
  | succ d => unfold valN; rw [if_pos h]
theorem valN_read {E : List Evt} {S : Nat → Int} {d i : Nat} {y : Evt} (h : E[i]? = some y) (hk : (y.kind == 0) = true) : valN E S (d + 1) (i : Int) = valN E S d (S i) := by
  rw [valN, if_neg (by omega), Int.toNat_natCast, h]
  simp only [hk, if_true]
theorem valN_copy {E : List Evt} {S : Nat → Int} {d i : Nat} {y : Evt} (h : E[i]? = some y) (hk : (y.kind == 0) = false) (ho : (y.ins.op == 1) = true) : valN E S (d + 1) (i : Int) = valN E S d (srcG y (E.take i) 0 (-1)) := by
  rw [valN, if_neg (by omega), Int.toNat_natCast, h]
  simp only [hk, ho, if_true, Bool.false_eq_true, if_false]
theorem valN_else {E : List Evt} {S : Nat → Int} {d i : Nat} {y : Evt} (h : E[i]? = some y) (hk : (y.kind == 0) = false) (ho : (y.ins.op == 1) = false) : valN E S (d + 1) (i : Int) = y.ins.val := by
  rw [valN, if_neg (by omega), Int.toNat_natCast, h]
  simp only [hk, ho, Bool.false_eq_true, if_false]

/-- An event of a thread, into a register: for those who look for the last Read. -/
def evtOf (thread reg : Int) : Evt := ⟨thread, 0, 0, 0, ⟨0, 0, reg, 0, 0⟩⟩

def regV (E : List Evt) (S : Nat → Int) (i r : Nat) : Int := valN E S (2 * E.length) (srcG (evtOf i r) E 0 (-1))
def locV (E : List Evt) (S : Nat → Int) (x : Exe) (j : Nat) : Int := match (x.order.getD j []).getLast? with
  | none => 0
  | some w => valN E S (2 * E.length) w
/-- What is held in the end. -/
def staL (k : Nat) (E : List Evt) (S : Nat → Int) (x : Exe) : List Int := ((List.range k).flatMap fun i => (List.range 3).map (regV E S i)) ++ (List.range 3).map (locV E S x)

theorem srcG_range (y : Evt) (E : List Evt) (i : Nat) (a : Int) (ha : a = -1 ∨ ∃ k : Nat, a = (k : Int) ∧ k < i) : srcG y E i a = -1 ∨ ∃ k : Nat, srcG y E i a = (k : Int) ∧ k < i + E.length := by
  induction E generalizing i a with
  | nil =>
    rcases ha with h | ⟨k, h1, h2⟩
    · exact .inl h
    · exact .inr ⟨k, h1, by simpa using h2⟩
  | cons z E ih =>
    rw [srcG]
    have h2 := ih (i + 1) (if z.kind == 0 && z.thread == y.thread && z.ins.reg == y.ins.reg then (i : Int) else a) (by
      split
      · exact .inr ⟨i, rfl, by omega⟩
      · rcases ha with h | ⟨k, h1, h2⟩
        · exact .inl h
        · exact .inr ⟨k, h1, by omega⟩)
    rcases h2 with h | ⟨k, h1, h2⟩
    · exact .inl h
    · exact .inr ⟨k, h1, by rw [List.length_cons]; omega⟩

end Go.Proofs.YtomijmikkbhgmaaGreat

namespace Go.Proofs.YtomijmikkbhgmaaGreat
open Go.RowKit

/-- From which event a Read reads, by its number. -/
def frG : List ((Nat × Evt) × Int) → Int → Int
  | [], _ => -1
  | q :: l, r => if (q.1.1 : Int) == r then q.2 else frG l r

theorem frG_hit {q : (Nat × Evt) × Int} {r : Int} (h : ((q.1.1 : Int) == r) = true) (l : List ((Nat × Evt) × Int)) : frG (q :: l) r = q.2 := by rw [frG, if_pos h]
theorem frG_mis {q : (Nat × Evt) × Int} {r : Int} (h : ((q.1.1 : Int) == r) = false) (l : List ((Nat × Evt) × Int)) : frG (q :: l) r = frG l r := by rw [frG, if_neg (by simp [h])]
theorem frG_mem (l : List ((Nat × Evt) × Int)) (r : Int) : frG l r = -1 ∨ ∃ q ∈ l, frG l r = q.2 ∧ (q.1.1 : Int) = r := by
  induction l with
  | nil => exact .inl rfl
  | cons q l ih =>
    cases h : ((q.1.1 : Int) == r)
    · rw [frG_mis h]
      rcases ih with h1 | ⟨q', h1, h2⟩
      · exact .inl h1
      · exact .inr ⟨q', List.mem_cons_of_mem _ h1, h2⟩
    · rw [frG_hit h]; exact .inr ⟨q, List.mem_cons_self .., rfl, by simpa using h⟩

set_option maxRecDepth 20000 in
set_option maxHeartbeats 1000000 in
theorem from_any (E : List Evt) (hE : E.length ≤ 96) (x : Exe) (hf : x.from'.length = (rdsX E 0).length) (r : Int) (v vf vo : Value) (w : World) (hev : Ev9At w v E) (hx : ExeAt w vf vo x) :
    Calls Tryz.prog 121 #[v, .agg #[vf, vo], .int .i64 r] w fun e w' => e = .returned (.int .i64 (frG ((rdsX E 0).zip x.from') r)) ∧ Below w.heap.size w w' := by
  have HE : Hid (Ev9At w v E) := hev
  obtain ⟨ao, b, off, cap, hv, _⟩ := hev
  obtain ⟨aof, bf, off2, capf, hvf, haf, _, hcf⟩ := hx.f
  obtain ⟨aoo, bo, off3, capo, hvo, _⟩ := hx.o
  subst hv hvf hvo
  have HF : Hid (∀ k a, x.from'[k]? = some a → IntC w bf (off2 + k * 1) a) := hcf
  have hrl := rdsX_len E 0
  have hRI : (rdsI E 0).length = (rdsX E 0).length := List.length_map ..
  have HRI : Hid (∀ (k : Nat) (p : Nat × Evt), (rdsX E 0)[k]? = some p → (rdsI E 0)[k]? = some (p.1 : Int)) := fun k p hp => by unfold rdsI; rw [List.getElem?_map, hp]; rfl
  have HB : Hid (frG ((rdsX E 0).zip x.from') r = frG (((rdsX E 0).zip x.from').drop 0) r) := rfl
  generalize frG ((rdsX E 0).zip x.from') r = B at HB ⊢
  generalize rdsX E 0 = R at HB hf hrl hRI HRI
  rw [hf]
  have HFL : Hid (x.from'.length = R.length) := hf
  clear hcf hx hf
  go_enter Tryz.func121, Tryz.ntmps121
  go_wp2_with fail
  have hba := below_alloc w (.cells #[.slice aof R.length capf, .slice aoo x.order.length capo] 29)
  refine (reads_any E hE _ _ (HE.out.keep hba)).mono ?_
  generalize rdsI E 0 = RI at hRI HRI
  rintro e w2 ⟨u2, rfl, hu2, hb2⟩
  obtain ⟨ao4, b4, off4, cap4, ⟨hv4, ha4, _, hc4⟩, hb4, _⟩ := hu2
  rw [hRI] at hv4
  subst hv4
  clear hRI
  have HR4 : Hid (∀ k a, RI[k]? = some a → IntC w2 b4 (off4 + k * 1) a) := hc4
  have e0 := keep_cell hb2 (b := w.heap.size) (off := 0) (u := .slice aof R.length capf) (by simp)
  have hbw2 := below_more hba hb2
  clear hc4 hb2
  go_wp2_with fail
  go_loop [8] (fun i => ∃ k : Nat, k ≤ R.length ∧ i = .int .i64 k ∧ Hid (B = frG ((R.zip x.from').drop k) r)) (fun i => R.length - (intOf i).toNat)
  case atStart => exact ⟨0, Nat.zero_le _, rfl, HB.out⟩
  case round =>
    clear HB
    obtain ⟨k, hk, rfl, hn⟩ := hrel
    by_cases hlt : k < R.length
    · obtain ⟨⟨r', y⟩, hp⟩ := get_of_lt hlt
      have hfl : k < x.from'.length := by have := HFL.out; omega
      obtain ⟨f, hfk⟩ := get_of_lt hfl
      have hr1 := HRI.out k _ hp
      obtain rfl := haf (ne_nil hfl)
      have ha4' := ha4 (by intro h; rw [h] at hr1; simp at hr1)
      subst ha4'
      have HN : Hid (B = frG (((r', y), f) :: (R.zip x.from').drop (k + 1)) r) := hn.out.trans (by rw [drop_cons (zip_get hp hfk)])
      have q0 := HR4.out k _ hr1
      have q1 := intC_keeps _ _ _ _ _ hbw2 (HF.out k f hfk)
      unfold IntC at q0 q1
      rw [Nat.mul_one] at q0 q1
      have hkI : (k : Int) < (R.length : Int) := by omega
      simp only at q0
      clear hn hp hfk hr1
      cases hrr : ((r' : Int) == r)
      · have HM : Hid (B = frG ((R.zip x.from').drop (k + 1)) r) := HN.out.trans (frG_mis hrr _)
        clear HN
        go_wp2_with fail
        go_round
        case measure => simp [intOf]; omega
        case rel => exact ⟨k + 1, by omega, by go_num, HM.out⟩
      · have HM : Hid (B = f) := HN.out.trans (frG_hit hrr _)
        clear HN
        go_wp2_with fail
        go_ret
        exact ⟨by rw [HM.out]; rfl, hbw2⟩
    · have HM : Hid (B = -1) := hn.out.trans (by rw [drop_nil (l := R.zip x.from') (k := k) (by have := List.length_zip (l₁ := R) (l₂ := x.from'); omega)]; rfl)
      have hkI : (R.length : Int) ≤ (k : Int) := by omega
      clear hn
      go_wp2_with fail
      go_ret
      exact ⟨by rw [HM.out]; rfl, hbw2⟩

/-- Numbers of events, or -1. -/
def EvI (n : Nat) (i : Int) : Prop := i = -1 ∨ ∃ k : Nat, i = (k : Int) ∧ k < n

set_option maxRecDepth 20000 in
set_option maxHeartbeats 1000000 in
theorem value_any (E : List Evt) (hE : E.length ≤ 96) (x : Exe) (hf : x.from'.length = (rdsX E 0).length) (hr : ∀ f ∈ x.from', EvI E.length f) (d : Nat) (hd : d ≤ 200) (i : Int) (hi : EvI E.length i) (v vf vo : Value) (w : World) (hev : Ev9At w v E) (hx : ExeAt w vf vo x) :
    Calls Tryz.prog 77 #[v, .agg #[vf, vo], .int .i64 i, .int .i64 d] w fun e w' => e = .returned (.int .i64 (valN E (fun r => frG ((rdsX E 0).zip x.from') (r : Int)) d i)) ∧ Below w.heap.size w w' := by
  induction d generalizing i w with
  | zero =>
    obtain ⟨aof, capf, hvf⟩ := hx.f.form
    obtain ⟨aoo, bo, offo, capo, hvo, _⟩ := hx.o
    obtain ⟨ao, b, off, cap, hv, _⟩ := hev
    subst hv hvf hvo
    have hba := below_alloc w (.cells #[.slice aof x.from'.length capf, .slice aoo x.order.length capo] 29)
    clear hx hr hf hi
    cases hi0 : decide (i < 0)
    · go_enter Tryz.func77, Tryz.ntmps77
      go_wp2_with fail
      go_ret
      exact ⟨rfl, hba⟩
    · go_enter Tryz.func77, Tryz.ntmps77
      go_wp2_with fail
      go_ret
      exact ⟨rfl, hba⟩
  | succ d ih =>
    have HV : Hid (∀ (i : Int) (w' : World), EvI E.length i → Below w.heap.size w w' → Calls Tryz.prog 77 #[v, .agg #[vf, vo], .int .i64 i, .int .i64 d] w' fun e w'' => e = .returned (.int .i64 (valN E (fun r => frG ((rdsX E 0).zip x.from') (r : Int)) d i)) ∧ Below w'.heap.size w' w'') := fun i w' hi hb => ih (by omega) i hi w' (hev.keep hb) (hx.keep hb)
    have HFR : Hid (∀ (r : Int) (w' : World), Below w.heap.size w w' → Calls Tryz.prog 121 #[v, .agg #[vf, vo], .int .i64 r] w' fun e w'' => e = .returned (.int .i64 (frG ((rdsX E 0).zip x.from') r)) ∧ Below w'.heap.size w' w'') := fun r w' hb => from_any E hE x hf r v vf vo w' (hev.keep hb) (hx.keep hb)
    have HSR : Hid (∀ (k : Nat) (y : Evt) (w' : World), E[k]? = some y → Below w.heap.size w w' → Calls Tryz.prog 122 #[v, .int .i64 k] w' fun e w'' => e = .returned (.int .i64 (srcG y (E.take k) 0 (-1))) ∧ Below w'.heap.size w' w'') := fun k y w' hy hb => source_any E hE k y hy v w' (hev.keep hb)
    have HFE : Hid (∀ r : Int, EvI E.length (frG ((rdsX E 0).zip x.from') r)) := fun r => by
      rcases frG_mem ((rdsX E 0).zip x.from') r with h | ⟨q, h1, h2, _⟩
      · exact .inl h
      · rw [h2]; exact hr _ (List.of_mem_zip h1).2
    have HSE : Hid (∀ (k : Nat) (y : Evt), k < E.length → EvI E.length (srcG y (E.take k) 0 (-1))) := fun k y hk => by
      rcases srcG_range y (E.take k) 0 (-1) (.inl rfl) with h | ⟨a, h1, h2⟩
      · exact .inl h
      · exact .inr ⟨a, h1, by rw [List.length_take] at h2; omega⟩
    have HVN : Hid (∀ i : Int, i < 0 → valN E (fun r => frG ((rdsX E 0).zip x.from') (r : Int)) (d + 1) i = 0) := fun i hi => valN_neg _ _ _ hi
    have HVR : Hid (∀ (k : Nat) (y : Evt), E[k]? = some y → (y.kind == 0) = true → valN E (fun r => frG ((rdsX E 0).zip x.from') (r : Int)) (d + 1) (k : Int) = valN E (fun r => frG ((rdsX E 0).zip x.from') (r : Int)) d (frG ((rdsX E 0).zip x.from') (k : Int))) := fun k y h hk => valN_read h hk
    have HVC : Hid (∀ (k : Nat) (y : Evt), E[k]? = some y → (y.kind == 0) = false → (y.ins.op == 1) = true → valN E (fun r => frG ((rdsX E 0).zip x.from') (r : Int)) (d + 1) (k : Int) = valN E (fun r => frG ((rdsX E 0).zip x.from') (r : Int)) d (srcG y (E.take k) 0 (-1))) := fun k y h hk ho => valN_copy h hk ho
    have HVE : Hid (∀ (k : Nat) (y : Evt), E[k]? = some y → (y.kind == 0) = false → (y.ins.op == 1) = false → valN E (fun r => frG ((rdsX E 0).zip x.from') (r : Int)) (d + 1) (k : Int) = y.ins.val) := fun k y h hk ho => valN_else h hk ho
    generalize valN E (fun r => frG ((rdsX E 0).zip x.from') (r : Int)) (d + 1) = V1 at HVN HVR HVC HVE ⊢
    generalize valN E (fun r => frG ((rdsX E 0).zip x.from') (r : Int)) d = V0 at HV HVR HVC
    generalize frG ((rdsX E 0).zip x.from') = fr at HFR HFE HVR
    obtain ⟨aof, capf, hvf⟩ := hx.f.form
    obtain ⟨aoo, bo, offo, capo, hvo, _⟩ := hx.o
    obtain ⟨ao, b, off, cap, hv, ha, _, hc⟩ := hev
    subst hv hvf hvo
    have hba := below_alloc w (.cells #[.slice aof x.from'.length capf, .slice aoo x.order.length capo] 29)
    clear hx hr hf ih
    have hd1 : ((d : Int) + 1 == 0) = false := by simp; omega
    have hcast : ((d + 1 : Nat) : Int) = (d : Int) + 1 := by omega
    rw [hcast]
    rcases hi with hi | ⟨k, hi, hk⟩
    · subst hi
      have HM : Hid (V1 (-1) = 0) := HVN.out (-1) (by omega)
      go_enter Tryz.func77, Tryz.ntmps77
      go_wp2_with fail
      go_ret
      exact ⟨by rw [HM.out]; rfl, hba⟩
    · subst hi
      obtain ⟨y, hy⟩ := get_of_lt hk
      obtain rfl := ha (ne_nil hk)
      have HC : Hid (Ev9C w b (off + k * 9) y) := hc k y hy
      obtain ⟨_, _, c2, _, c4, _, _, c7, _⟩ := HC.out
      have m0 := World.block_lt_of_cell? _ _ c2
      simp only at m0
      have hkI : (k : Int) < (E.length : Int) := by omega
      have hk0 : decide ((k : Int) < 0) = false := by rw [decide_eq_false_iff_not]; omega
      have hdI : (d : Int) + 1 - 1 = (d : Int) := by omega
      have hdw : IntKind.i64.wrap (d : Int) = (d : Int) := by rw [IntKind.wrap_i64]; omega
      cases k0 : y.kind == 0
      · cases o1 : y.ins.op == 1
        · have HM : Hid (V1 (k : Int) = y.ins.val) := HVE.out k y hy k0 o1
          clear hc hy
          go_enter Tryz.func77, Tryz.ntmps77
          go_wp2_with fail
          go_ret
          exact ⟨by rw [HM.out]; rfl, hba⟩
        · have HM : Hid (V1 (k : Int) = V0 (srcG y (E.take k) 0 (-1))) := HVC.out k y hy k0 o1
          have HS1 : Hid (∀ w', Below w.heap.size w w' → Calls Tryz.prog 122 #[.slice (some ⟨b, off, none⟩) E.length cap, .int .i64 k] w' fun e w'' => e = .returned (.int .i64 (srcG y (E.take k) 0 (-1))) ∧ Below w'.heap.size w' w'') := fun w' hb => HSR.out k y w' hy hb
          have HS2 : Hid (EvI E.length (srcG y (E.take k) 0 (-1))) := HSE.out k y hk
          generalize srcG y (E.take k) 0 (-1) = sr at HM HS1 HS2
          clear hc hy
          go_enter Tryz.func77, Tryz.ntmps77
          go_wp2_with fail
          have x0 : (w.alloc (.cells #[.slice aof x.from'.length capf, .slice aoo x.order.length capo] 29)).cell? ⟨w.heap.size, 0, none⟩ = some (.slice aof x.from'.length capf) := by simp
          have x1 : (w.alloc (.cells #[.slice aof x.from'.length capf, .slice aoo x.order.length capo] 29)).cell? ⟨w.heap.size, 1, none⟩ = some (.slice aoo x.order.length capo) := by simp
          generalize w.alloc (.cells #[.slice aof x.from'.length capf, .slice aoo x.order.length capo] 29) = W at hba x0 x1 ⊢
          replace x0 := grown_cell x0
          replace x1 := grown_cell x1
          have hne := grw_some W
          refine wp_region_grown (by kernel_rfl) (by kernel_rfl) ?_
          repeat (go_big_quiet_step (first | (go_at_call 122; exact grown_call (HS1.out _ (below_more hba (Grw.low _)))) | (go_at_call 77; exact grown_call (HV.out sr _ HS2.out (below_more hba (Grw.low _))))))
          refine wpQuiet_nil ?_
          intro w7 hw7
          obtain ⟨⟨w7', hb7⟩, rfl⟩ := hw7
          go_wp2_with fail
          go_ret
          exact ⟨by rw [HM.out]; rfl, below_more hba hb7⟩
      · have HM : Hid (V1 (k : Int) = V0 (fr (k : Int))) := HVR.out k y hy k0
        have HS2 := HFE.out (k : Int)
        have HF1 : Hid (∀ w', Below w.heap.size w w' → Calls Tryz.prog 121 #[.slice (some ⟨b, off, none⟩) E.length cap, .agg #[.slice aof x.from'.length capf, .slice aoo x.order.length capo], .int .i64 k] w' fun e w'' => e = .returned (.int .i64 (fr (k : Int))) ∧ Below w'.heap.size w' w'') := fun w' hb => HFR.out (k : Int) w' hb
        generalize fr (k : Int) = sr at HM HF1 HS2
        have HS3 : Hid (EvI E.length sr) := HS2
        clear hc hy HS2
        go_enter Tryz.func77, Tryz.ntmps77
        go_wp2_with fail
        have x0 : (w.alloc (.cells #[.slice aof x.from'.length capf, .slice aoo x.order.length capo] 29)).cell? ⟨w.heap.size, 0, none⟩ = some (.slice aof x.from'.length capf) := by simp
        have x1 : (w.alloc (.cells #[.slice aof x.from'.length capf, .slice aoo x.order.length capo] 29)).cell? ⟨w.heap.size, 1, none⟩ = some (.slice aoo x.order.length capo) := by simp
        generalize w.alloc (.cells #[.slice aof x.from'.length capf, .slice aoo x.order.length capo] 29) = W at hba x0 x1 ⊢
        replace x0 := grown_cell x0
        replace x1 := grown_cell x1
        have hne := grw_some W
        refine wp_region_grown (by kernel_rfl) (by kernel_rfl) ?_
        repeat (go_big_quiet_step (first | (go_at_call 121; exact grown_call (HF1.out _ (below_more hba (Grw.low _)))) | (go_at_call 77; exact grown_call (HV.out sr _ HS3.out (below_more hba (Grw.low _))))))
        refine wpQuiet_nil ?_
        intro w7 hw7
        obtain ⟨⟨w7', hb7⟩, rfl⟩ := hw7
        go_wp2_with fail
        go_ret
        exact ⟨by rw [HM.out]; rfl, below_more hba hb7⟩

end Go.Proofs.YtomijmikkbhgmaaGreat

namespace Go.Proofs.YtomijmikkbhgmaaGreat
open Go.RowKit

def cmpL : List Int → List Int → Int
  | a :: l, b :: m => if a == b then cmpL l m else a - b
  | _, _ => 0
theorem cmpL_eq {a b : Int} (h : (a == b) = true) (l m : List Int) : cmpL (a :: l) (b :: m) = cmpL l m := by rw [cmpL, if_pos h]
theorem cmpL_ne {a b : Int} (h : (a == b) = false) (l m : List Int) : cmpL (a :: l) (b :: m) = a - b := by rw [cmpL, if_neg (by simp [h])]

theorem below_drN {n : Nat} {w w' : World} (h : Below n w w') (k : Nat) : Below n w (w'.drewN k) := ⟨h.os, h.tape, h.output, h.size, h.block⟩

/-- Small numbers. -/
def Small (l : List Int) : Prop := ∀ a ∈ l, -1000 ≤ a ∧ a ≤ 1000

set_option maxRecDepth 20000 in
set_option maxHeartbeats 1000000 in
theorem compare_any (l m : List Int) (hlm : m.length = l.length) (hl : l.length ≤ 1000) (h1 : Small l) (h2 : Small m) (u v : Value) (w : World) (hu : IntAt w u l) (hv : IntAt w v m) :
    Calls Tryz.prog 48 #[u, v] w fun e w' => e = .returned (.int .i64 (cmpL l m)) ∧ ∃ n, w' = w.drewN n := by
  obtain ⟨ao, b, off, cap, hu1, ha, _, hc⟩ := hu
  obtain ⟨ao2, b2, off2, cap2, hv1, ha2, _, hc2⟩ := hv
  subst hu1 hv1
  rw [hlm]
  have HC : Hid (∀ k x, l[k]? = some x → w.cell? ⟨b, off + k, none⟩ = some (.int .i64 x)) := fun k x hx => by
    have := hc k x hx
    unfold IntC at this
    rw [Nat.mul_one] at this; exact this
  have HC2 : Hid (∀ k x, m[k]? = some x → w.cell? ⟨b2, off2 + k, none⟩ = some (.int .i64 x)) := fun k x hx => by
    have := hc2 k x hx
    unfold IntC at this
    rw [Nat.mul_one] at this; exact this
  have HSM : Hid (Small l ∧ Small m ∧ m.length = l.length) := ⟨h1, h2, hlm⟩
  have HB : Hid (cmpL l m = cmpL (l.drop 0) (m.drop 0)) := rfl
  generalize cmpL l m = B at HB ⊢
  clear hc hc2 h1 h2 hlm
  go_enter Tryz.func48, Tryz.ntmps48
  go_wp2_with fail
  go_loopw [5] (fun i wr => ∃ k nn : Nat, k ≤ l.length ∧ i = .int .i64 k ∧ Hid (B = cmpL (l.drop k) (m.drop k)) ∧ wr = w.drewN nn) (fun i _ => l.length - (intOf i).toNat)
  case atStart => exact ⟨0, 0, Nat.zero_le _, rfl, HB.out, rfl⟩
  case round =>
    clear HB
    obtain ⟨k, nn, hk, rfl, hn, hwr⟩ := hrel
    subst hwr
    by_cases hlt : k < l.length
    · obtain ⟨x, hx⟩ := get_of_lt hlt
      obtain ⟨y, hy⟩ := get_of_lt (l := m) (k := k) (by have := HSM.out.2.2; omega)
      obtain rfl := ha (ne_nil hlt)
      obtain rfl := ha2 (ne_nil (k := k) (by have := HSM.out.2.2; omega))
      have c0 := HC.out k x hx
      have d0 := HC2.out k y hy
      obtain ⟨x1, x2⟩ := HSM.out.1 x (List.mem_of_getElem? hx)
      obtain ⟨y1, y2⟩ := HSM.out.2.1 y (List.mem_of_getElem? hy)
      have hkI : (k : Int) < (l.length : Int) := by omega
      have HN : Hid (B = cmpL (x :: l.drop (k + 1)) (y :: m.drop (k + 1))) := hn.out.trans (by rw [drop_cons hx, drop_cons hy])
      clear hn hx hy
      cases hxy : x == y
      · have hxy' : (x != y) = true := by simp [bne, hxy]
        have HM : Hid (B = x - y) := HN.out.trans (cmpL_ne hxy _ _)
        have hw : IntKind.i64.wrap (x - y) = x - y := by rw [IntKind.wrap_i64]; omega
        go_wp2_with fail
        go_quiet (fail)
        go_wp2_with fail
        go_quiet (fail)
        go_wp2_with fail
        go_ret
        exact ⟨by rw [HM.out]; rfl, _, by rw [World.drewN_drewN, World.drewN_drewN]⟩
      · have hxy' : (x != y) = false := by simp [bne, hxy]
        have HM : Hid (B = cmpL (l.drop (k + 1)) (m.drop (k + 1))) := HN.out.trans (cmpL_eq hxy _ _)
        go_wp2_with fail
        go_quiet (fail)
        go_wp2_with fail
        go_roundw
        case measure => simp [intOf]; omega
        case rel => exact ⟨k + 1, _, by omega, by go_num, HM.out, rfl⟩
    · have HM : Hid (B = 0) := hn.out.trans (by rw [drop_nil hlt]; rfl)
      have hkI : (l.length : Int) ≤ (k : Int) := by omega
      clear hn
      go_wp2_with fail
      go_ret
      exact ⟨by rw [HM.out]; rfl, _, rfl⟩

/-- Where an atom looks in a state. -/
def idxA (n : Nat) (a : Atm) : Nat := (if a.thread == -1 then 3 * (n : Int) + a.at' else 3 * a.thread + a.at').toNat
/-- Does the condition hold in a state? -/
def metB (n : Nat) (c : List Atm) (s : List Int) : Bool := c.all fun a => s.getD (idxA n a) 0 == a.val

/-- Atoms that may be. -/
def AtmsOk (n : Nat) (c : List Atm) : Prop := ∀ a ∈ c, atmB a n = true

theorem atms_ok {n : Nat} {c : List Atm} {i : Nat} (h : atmF c i n = none) : AtmsOk n c := by
  induction c generalizing i with
  | nil => intro a ha; cases ha
  | cons x c ih =>
    rw [atmF] at h
    cases hx : atmB x n
    · rw [hx] at h; simp at h
    · rw [hx] at h
      intro a ha
      rcases List.mem_cons.1 ha with rfl | ha
      · exact hx
      · exact ih (by simpa using h) a ha

theorem atm_range {n : Nat} {a : Atm} (h : atmB a n = true) : (a.thread = -1 ∧ 0 ≤ a.at' ∧ a.at' < 3) ∨ (0 ≤ a.thread ∧ a.thread < n ∧ 0 ≤ a.at' ∧ a.at' < 3) := by
  unfold atmB at h
  simp only [Bool.and_eq_true] at h
  by_cases ht : a.thread = -1
  · have := h.2
    rw [ht] at this
    unfold locB at this
    simp at this
    exact .inl ⟨ht, by omega⟩
  · have := h.2
    have ht' : (a.thread == -1) = false := by simpa using ht
    rw [ht'] at this
    unfold locB at this
    simp at this
    exact .inr (by omega)

set_option maxRecDepth 20000 in
set_option maxHeartbeats 1000000 in
theorem met_any (T : List (List Ins)) (hT : T.length ≤ 4) (fa : Bool) (c : List Atm) (hc : AtmsOk T.length c) (vt vc : Value) (s : List Int) (hs : s.length = 3 * T.length + 3) (v : Value) (w : World) (h : TestAt w (.agg #[vt, .bool fa, vc]) T fa c vt vc) (hv : IntAt w v s) :
    Calls Tryz.prog 50 #[.agg #[vt, .bool fa, vc], v] w fun e w' => e = .returned (.bool (metB T.length c s)) ∧ Below w.heap.size w w' := by
  obtain ⟨ht0, aot, bt, offt, capt, htv, _⟩ := h.ht.opened
  obtain ⟨hc0, aoc, bc, offc, capc, hvc, hac, _, hcc⟩ := h.hc
  obtain ⟨ao, b, off, cap, hv1, ha, _, hcs⟩ := hv
  subst htv hvc hv1
  have HC : Hid (∀ k x, c[k]? = some x → AtmC w bc (offc + k * 3) x) := hcc
  have HS : Hid (∀ k x, s[k]? = some x → w.cell? ⟨b, off + k, none⟩ = some (.int .i64 x)) := fun k x hx => by
    have := hcs k x hx
    unfold IntC at this
    rw [Nat.mul_one] at this; exact this
  have HOK : Hid (AtmsOk T.length c ∧ s.length = 3 * T.length + 3) := ⟨hc, hs⟩
  obtain rfl := ha (by intro h; rw [h] at hs; simp at hs)
  have HB : Hid (metB T.length c s = (c.drop 0).all fun a => s.getD (idxA T.length a) 0 == a.val) := rfl
  generalize metB T.length c s = B at HB ⊢
  have hsl : s.length ≤ 100 := by omega
  clear hcc hcs h hc hs ha
  go_enter Tryz.func50, Tryz.ntmps50
  go_wp2_with fail
  have hba := below_alloc w (.cells #[.slice aot T.length capt, .bool fa, .slice aoc c.length capc] 25)
  have HBX : Hid ((w.alloc (.cells #[.slice aot T.length capt, .bool fa, .slice aoc c.length capc] 25)).cell? ⟨w.heap.size, 0, none⟩ = some (.slice aot T.length capt) ∧ (w.alloc (.cells #[.slice aot T.length capt, .bool fa, .slice aoc c.length capc] 25)).cell? ⟨w.heap.size, 2, none⟩ = some (.slice aoc c.length capc)) := ⟨by simp, by simp⟩
  generalize w.alloc (.cells #[.slice aot T.length capt, .bool fa, .slice aoc c.length capc] 25) = W at hba HBX ⊢
  go_loopw [5] (fun i wr => ∃ k : Nat, k ≤ c.length ∧ i = .int .i64 k ∧ Hid (B = (c.drop k).all fun a => s.getD (idxA T.length a) 0 == a.val) ∧ Below W.heap.size W wr) (fun i _ => c.length - (intOf i).toNat)
  case atStart => exact ⟨0, Nat.zero_le _, rfl, HB.out, Below.refl _ _⟩
  case round =>
    clear HB
    obtain ⟨k, hk, rfl, hn, hb⟩ := hrel
    have t0 := keep_cell hb HBX.out.1
    have t2 := keep_cell hb HBX.out.2
    have hbw := below_more hba hb
    have hsz := hb.size
    by_cases hlt : k < c.length
    · obtain ⟨x, hx⟩ := get_of_lt hlt
      obtain rfl := hac (ne_nil hlt)
      obtain ⟨c0, c1, c2⟩ := (atmC_keeps _ _ _ _ _ hbw (HC.out k x hx))
      have m0 := World.block_lt_of_cell? _ _ c0
      have m1 := World.block_lt_of_cell? _ _ t0
      simp only at m0 m1
      have hkI : (k : Int) < (c.length : Int) := by omega
      have hrg := atm_range (HOK.out.1 x (List.mem_of_getElem? hx))
      have hidx : idxA T.length x < s.length := by
        rw [HOK.out.2]
        unfold idxA
        rcases hrg with ⟨h1, h2, h3⟩ | ⟨h1, h2, h3, h4⟩
        · rw [h1]; simp; omega
        · have : (x.thread == -1) = false := by simp; omega
          rw [this]; simp; omega
      obtain ⟨y, hy⟩ := get_of_lt hidx
      have HN : Hid (B = ((y == x.val) && (c.drop (k + 1)).all fun a => s.getD (idxA T.length a) 0 == a.val)) := hn.out.trans (by rw [drop_cons hx, List.all_cons, List.getD, hy]; rfl)
      have hix : Hid ((idxA T.length x : Int) = if x.thread == -1 then 3 * (T.length : Int) + x.at' else 3 * x.thread + x.at') := by
        show _ = _
        unfold idxA
        rcases hrg with ⟨h1, h2, h3⟩ | ⟨h1, h2, h3, h4⟩
        · rw [h1]; simp; omega
        · have : (x.thread == -1) = false := by simp; omega
          rw [this]; simp; omega
      have s0 := keep_cell hbw (HS.out _ y hy)
      have ms0 := World.block_lt_of_cell? _ _ s0
      simp only at ms0
      generalize idxA T.length x = ix at *
      have hixI : (ix : Int) < (s.length : Int) := by omega
      clear hn hx hy
      cases hth : x.thread == -1
      · have e1 : 3 * x.thread + x.at' = (ix : Int) := by rw [hix.out, hth]; rfl
        rcases hrg with ⟨h1, h2, h3⟩ | ⟨h1, h2, h3, h4⟩
        · rw [h1] at hth; simp at hth
        cases hyv : y == x.val
        · have hyv' : (y != x.val) = true := by simp [bne, hyv]
          have HM : Hid (B = false) := HN.out.trans (by rw [hyv]; rfl)
          go_wp2_with fail
          go_quiet (fail)
          go_wp2_with fail
          go_ret
          exact ⟨by rw [HM.out]; rfl, below_more hba (below_drN (hb.alloc hb.size _) _)⟩
        · have hyv' : (y != x.val) = false := by simp [bne, hyv]
          have HM : Hid (B = (c.drop (k + 1)).all fun a => s.getD (idxA T.length a) 0 == a.val) := HN.out.trans (by rw [hyv, Bool.true_and])
          go_wp2_with fail
          go_quiet (fail)
          go_wp2_with fail
          go_roundw
          case measure => simp [intOf]; omega
          case rel => exact ⟨k + 1, by omega, by go_num, HM.out, below_drN (hb.alloc hb.size _) _⟩
      · have e1 : 3 * (T.length : Int) + x.at' = (ix : Int) := by rw [hix.out, hth]; rfl
        have hth1 : x.thread = -1 := by simpa using hth
        rcases hrg with ⟨h1, h2, h3⟩ | ⟨h1, h2, h3, h4⟩
        case inr => omega
        cases hyv : y == x.val
        · have hyv' : (y != x.val) = true := by simp [bne, hyv]
          have HM : Hid (B = false) := HN.out.trans (by rw [hyv]; rfl)
          go_wp2_with fail
          go_quiet (fail)
          go_wp2_with fail
          go_ret
          exact ⟨by rw [HM.out]; rfl, below_more hba (below_drN (hb.alloc hb.size _) _)⟩
        · have hyv' : (y != x.val) = false := by simp [bne, hyv]
          have HM : Hid (B = (c.drop (k + 1)).all fun a => s.getD (idxA T.length a) 0 == a.val) := HN.out.trans (by rw [hyv, Bool.true_and])
          go_wp2_with fail
          go_quiet (fail)
          go_wp2_with fail
          go_roundw
          case measure => simp [intOf]; omega
          case rel => exact ⟨k + 1, by omega, by go_num, HM.out, below_drN (hb.alloc hb.size _) _⟩
    · have HM : Hid (B = true) := hn.out.trans (by rw [drop_nil hlt]; rfl)
      have hkI : (c.length : Int) ≤ (k : Int) := by omega
      clear hn
      go_wp2_with fail
      go_ret
      exact ⟨by rw [HM.out]; rfl, hbw⟩

end Go.Proofs.YtomijmikkbhgmaaGreat
