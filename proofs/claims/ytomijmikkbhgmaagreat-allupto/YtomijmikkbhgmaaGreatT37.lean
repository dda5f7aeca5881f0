import Derived.Test.YtomijmikkbhgmaaGreatT2
import Derived.Deep.QuietTactic
import Derived.BigQuiet
import Derived.Test.YtomijmikkbhgmaaGreatT33
import Derived.Test.YtomijmikkbhgmaaGreatT35
import Derived.Test.YtomijmikkbhgmaaGreatT34
import Derived.Test.YtomijmikkbhgmaaGreatMc
import Derived.Test.YtomijmikkbhgmaaGreatT31
import Derived.Test.YtomijmikkbhgmaaGreatLu
import Derived.Test.YtomijmikkbhgmaaGreatT23
import Derived.Test.YtomijmikkbhgmaaGreatT25
import Derived.Test.YtomijmikkbhgmaaGreatT4
import Derived.Test.YtomijmikkbhgmaaGreatT7
namespace Go.Proofs.YtomijmikkbhgmaaGreat
open Go.RowKit

set_option maxHeartbeats 1000000 in
theorem sameEvents_any (E : List Evt) (hE : E.length ≤ 96) (u v : Value) (w : World) (hu : Ev4At w u E) (hv : Ev4At w v E) :
    Calls Tryz.prog 63 #[u, v] w fun e w' => e = .returned (.bool true) ∧ Below w.heap.size w w' := by
  obtain ⟨ao, b, off, cap, hv1, ha, _, hc⟩ := hu
  obtain ⟨ao2, b2, off2, cap2, hv2, ha2, _, hc2⟩ := hv
  subst hv1 hv2
  have HC : Hid ((∀ k x, E[k]? = some x → Ev4C w b (off + k * 4) x) ∧ (∀ k x, E[k]? = some x → Ev4C w b2 (off2 + k * 4) x)) := ⟨hc, hc2⟩
  clear hc hc2
  have k0 : ((E.length : Int) != (E.length : Int)) = false := by simp
  go_enter Tryz.func63, Tryz.ntmps63
  go_wp2_with fail
  go_loopw [5] (fun i wr => ∃ k : Nat, k ≤ E.length ∧ i = .int .i64 k ∧ Below w.heap.size w wr) (fun i _ => E.length - (intOf i).toNat)
  case atStart => exact ⟨0, Nat.zero_le _, rfl, Below.refl _ _⟩
  case round =>
    obtain ⟨k, hk, rfl, hb⟩ := hrel
    by_cases hlt : k < E.length
    · obtain ⟨x, hx⟩ := get_of_lt hlt
      obtain rfl := ha (ne_nil hlt)
      obtain rfl := ha2 (ne_nil hlt)
      obtain ⟨c0, c1, c2, c3⟩ := ev4C_keeps _ _ _ _ _ hb (HC.out.1 k x hx)
      obtain ⟨d0, d1, d2, d3⟩ := ev4C_keeps _ _ _ _ _ hb (HC.out.2 k x hx)
      have n0 : (x.thread != x.thread) = false := by simp
      have n1 : (x.place != x.place) = false := by simp
      have n2 : (x.kind != x.kind) = false := by simp
      have n3 : (x.loc != x.loc) = false := by simp
      have hkI : (k : Int) < (E.length : Int) := by omega
      clear hx
      go_wp2_with fail
      go_quiet (fail)
      go_wp2_with fail
      go_roundw
      case measure => simp [intOf]; omega
      case rel => exact ⟨k + 1, by omega, by go_num, below_drewN hb _⟩
    · go_wp2_with fail
      go_ret
      exact ⟨rfl, hb⟩

end Go.Proofs.YtomijmikkbhgmaaGreat

namespace Go.Proofs.YtomijmikkbhgmaaGreat
open Go.RowKit

theorem evsR_len96 (T : List (List Ins)) (c : List Atm) : (evsR T c).length ≤ 96 := by
  unfold evsR
  cases hz : (chk T c).1 == 0
  · simp
  · obtain ⟨h2, hL, _⟩ := sizeB_parts (chk_zero hz)
    have := evsT_len T 0 hL
    simp; omega

theorem cExe_small (T : List (List Ins)) (c : List Atm) (n : Int) : (cExe T c n).from'.length ≤ 1000 ∧ (cExe T c n).order.length ≤ 1000 ∧ ∀ y ∈ (cExe T c n).order, y.length ≤ 1000 := by
  have z0 : (⟨[], []⟩ : Exe).from'.length ≤ 1000 ∧ (⟨[], []⟩ : Exe).order.length ≤ 1000 ∧ ∀ y ∈ (⟨[], []⟩ : Exe).order, y.length ≤ 1000 := ⟨by simp, by simp, fun y hy => by cases hy⟩
  unfold cExe
  cases hz : (chk T c).1 == 0
  · simp
  · simp only [if_true]
    split
    · have hE := (fits_of hz).el
      have hx := exN_isEx (evsT T 0) n.toNat
      refine ⟨?_, by have := hx.o3; omega, fun y hy => ?_⟩
      · have h4 := hx.f; have h5 := rdsX_len (evsT T 0) 0; omega
      · obtain ⟨j, hj⟩ := List.mem_iff_getElem?.1 hy
        have := hx.len hE hj
        omega
    · exact z0
theorem WOutF.exe3 {B : Nat} {T : List (List Ins)} {c : List Atm} {fa : Bool} {al : Nat → Bool} {w : World} {n : Int} {vf vo : Value} {er : Int} (h : WOutF B T c fa al w n vf vo er) : ∃ x : Exe, ExeF B w vf vo x ∧ x.order.length ≤ 1000 := by
  rcases h with ⟨_, _, _, h4⟩ | ⟨_, _, ⟨_, _, h5⟩ | ⟨k, _, _, h5⟩⟩
  · exact ⟨_, h4, by simp⟩
  · exact ⟨_, h5, by simp⟩
  · exact ⟨_, h5, by have := (exN_isEx (evsT T 0) k).o3; omega⟩
theorem OOutF.out {B : Nat} {T : List (List Ins)} {c : List Atm} {al : Nat → Bool} {w : World} {u : Value} {er : Int} (h : OOutF B T c al w u er) : ∃ KK, OutF B w u KK ∧ KK.length ≤ 2000 := by
  rcases h with ⟨_, _, rfl⟩ | ⟨h1, _, h3⟩
  · exact ⟨[], ⟨[], rfl, World.ownsRow_nil _ _ _ _, (fun q hq => by cases hq), (fun i j a z g _ ha => by simp at ha)⟩, by simp⟩
  · refine ⟨_, h3, ?_⟩
    have hz : ((chk T c).1 == 0) = true := by simpa using h1
    have e1 := outK_len (stsL al T (evsT T 0) (sizeN (evsT T 0)))
    have e2 := List.length_filterMap_le id (optL al T (evsT T 0) (sizeN (evsT T 0)))
    have e3 := optL_len al T (evsT T 0) (sizeN (evsT T 0))
    have e4 := chk_many_no hz
    unfold stsL at e1 ⊢
    omega
theorem OutF.keep {B : Nat} {w w' : World} {V : Value} {K : List (List Int × Nat)} (h : OutF B w V K) (hb : Below w.heap.size w w') : OutF B w' V K := by
  obtain ⟨K', h1, h2, h3, h4⟩ := h
  exact ⟨K', h1, own_keep h2 hb, fun q hq => own_keep (h3 q hq) hb, h4⟩
theorem Took.since {b0 : Nat} {w w5 w6 : World} {R : Nat} {vts vxs : Value} {N N' M : Nat} {V : Nat → Value} {F : Nat → List Value} {MB P P5 P6 : Nat → Prop} (h : WM b0 w R vts vxs N V F MB P) (hb : Below w.heap.size w w5) (t : Took b0 w5 w6 R vts vxs N' P5 P6) (hP : ∀ b, P b → P6 b) (hN : N' ≤ M) : Took b0 w w6 R vts vxs M P P := by
  obtain ⟨⟨V', F', MB', q⟩, q2, _⟩ := t
  have hl := h.lo
  have hr := heap_ltA h.blk
  exact ⟨⟨V', F', MB', q.le hN hP⟩, ⟨(hb.mono (by omega)).trans q2.below, fun b hb' => (q2.same b (hP b hb')).trans (hb.block b (h.pend b hb').2.1)⟩, fun _ q => q⟩
theorem Took.none {b0 : Nat} {w w5 : World} {R : Nat} {vts vxs : Value} {N M : Nat} {V : Nat → Value} {F : Nat → List Value} {MB P : Nat → Prop} (h : WM b0 w R vts vxs N V F MB P) (hb : Below w.heap.size w w5) (hN : N ≤ M) : Took b0 w w5 R vts vxs M P P := by
  have hl := h.lo
  have hr := heap_ltA h.blk
  exact ⟨⟨V, F, MB, (h.keep hb).le hN fun _ q => q⟩, ⟨hb.mono (by omega), fun b hb' => hb.block b (h.pend b hb').2.1⟩, fun _ q => q⟩

set_option maxRecDepth 20000 in
set_option maxHeartbeats 16000000 in
theorem calls_any (b0 : Nat) (R : Nat) (vts vxs : Value) (N : Nat) (V : Nat → Value) (F : Nat → List Value) (MB P : Nat → Prop) (w : World) (h : WM b0 w R vts vxs N V F MB P) (hN : N ≤ 10000000000) (T : List (List Ins)) (fa : Bool) (c : List Atm) (vt vc ut uc : Value) (ht : TestAt w (.agg #[vt, .bool fa, vc]) T fa c vt vc) (hu : TestAt w (.agg #[ut, .bool fa, uc]) T fa c ut uc) (kd a bn : Int) :
    Calls Tryz.prog 35 #[.pointer (some ⟨R, 0, none⟩), .agg #[.int .i64 kd, .int .i64 a, .int .i64 bn], .agg #[vt, .bool fa, vc], .agg #[ut, .bool fa, uc]] w fun e w' => e = .returned (.bool true) ∧ Took b0 w w' R vts vxs (N + 2001) P P := by
  have HW := hid h
  have HT := hid (fun (w' : World) (hb : Below w.heap.size w w') => ht.keep hb)
  have HU := hid (fun (w' : World) (hb : Below w.heap.size w w') => hu.keep hb)
  obtain ⟨⟨a1, n1, p1, e1⟩, ⟨a2, n2, p2, e2⟩⟩ : (∃ a n p, vt = .slice a n p) ∧ ∃ a n p, vc = .slice a n p := by
    obtain ⟨_, a1, _, _, p1, e1, _⟩ := ht.ht
    obtain ⟨_, a2, _, _, p2, e2, _⟩ := ht.hc
    exact ⟨⟨a1, _, p1, e1⟩, ⟨a2, _, p2, e2⟩⟩
  obtain ⟨⟨a3, n3, p3, e3⟩, ⟨a4, n4, p4, e4⟩⟩ : (∃ a n p, ut = .slice a n p) ∧ ∃ a n p, uc = .slice a n p := by
    obtain ⟨_, a1, _, _, p1, e1, _⟩ := hu.ht
    obtain ⟨_, a2, _, _, p2, e2, _⟩ := hu.hc
    exact ⟨⟨a1, _, p1, e1⟩, ⟨a2, _, p2, e2⟩⟩
  subst e1 e2 e3 e4
  have hba := below_three w (.cells #[.int .i64 kd, .int .i64 a, .int .i64 bn] 43) (.cells #[.slice a1 n1 p1, .bool fa, .slice a2 n2 p2] 25) (.cells #[.slice a3 n3 p3, .bool fa, .slice a4 n4 p4] 25)
  have HBX : Hid (∀ w', Below (w.heap.size + 1 + 1 + 1) (((w.alloc (.cells #[.int .i64 kd, .int .i64 a, .int .i64 bn] 43)).alloc (.cells #[.slice a1 n1 p1, .bool fa, .slice a2 n2 p2] 25)).alloc (.cells #[.slice a3 n3 p3, .bool fa, .slice a4 n4 p4] 25)) w' → w'.cell? ⟨w.heap.size, 0, none⟩ = some (.int .i64 kd) ∧ w'.cell? ⟨w.heap.size, 2, none⟩ = some (.int .i64 bn) ∧ w'.cell? ⟨w.heap.size + 1, 0, none⟩ = some (.slice a1 n1 p1) ∧ w'.cell? ⟨w.heap.size + 1, 1, none⟩ = some (.bool fa) ∧ w'.cell? ⟨w.heap.size + 1, 2, none⟩ = some (.slice a2 n2 p2) ∧ w'.cell? ⟨w.heap.size + 1 + 1, 0, none⟩ = some (.slice a3 n3 p3) ∧ w'.cell? ⟨w.heap.size + 1 + 1, 1, none⟩ = some (.bool fa) ∧ w'.cell? ⟨w.heap.size + 1 + 1, 2, none⟩ = some (.slice a4 n4 p4)) := fun w' hb => by
    have h1 := hb.cell (p := ⟨w.heap.size, 0, none⟩) (by simp; omega)
    have h2 := hb.cell (p := ⟨w.heap.size, 2, none⟩) (by simp; omega)
    have h3 := hb.cell (p := ⟨w.heap.size + 1, 0, none⟩) (by simp)
    have h4 := hb.cell (p := ⟨w.heap.size + 1, 1, none⟩) (by simp)
    have h5 := hb.cell (p := ⟨w.heap.size + 1, 2, none⟩) (by simp)
    have h6 := hb.cell (p := ⟨w.heap.size + 1 + 1, 0, none⟩) (by simp)
    have h7 := hb.cell (p := ⟨w.heap.size + 1 + 1, 1, none⟩) (by simp)
    have h8 := hb.cell (p := ⟨w.heap.size + 1 + 1, 2, none⟩) (by simp)
    rw [h1, h2, h3, h4, h5, h6, h7, h8]
    refine ⟨?_, ?_, ?_, ?_, ?_, ?_, ?_, ?_⟩ <;> simp [go_sem]
  have HBW : Hid (∀ w', Below (w.heap.size + 1 + 1 + 1) (((w.alloc (.cells #[.int .i64 kd, .int .i64 a, .int .i64 bn] 43)).alloc (.cells #[.slice a1 n1 p1, .bool fa, .slice a2 n2 p2] 25)).alloc (.cells #[.slice a3 n3 p3, .bool fa, .slice a4 n4 p4] 25)) w' → Below w.heap.size w w') := fun w' hb => hba.trans (hb.mono (by omega))
  clear ht hu h
  obtain ⟨al, hal⟩ := als_ex T (evsT T 0)
  by_cases k1 : kd = 1
  · subst k1
    go_enter Tryz.func35, Tryz.ntmps35
    go_wp2_with fail
    have hsW : (((w.alloc (.cells #[.int .i64 1, .int .i64 a, .int .i64 bn] 43)).alloc (.cells #[.slice a1 n1 p1, .bool fa, .slice a2 n2 p2] 25)).alloc (.cells #[.slice a3 n3 p3, .bool fa, .slice a4 n4 p4] 25)).heap.size = w.heap.size + 1 + 1 + 1 := by simp
    generalize (((w.alloc (.cells #[.int .i64 1, .int .i64 a, .int .i64 bn] 43)).alloc (.cells #[.slice a1 n1 p1, .bool fa, .slice a2 n2 p2] 25)).alloc (.cells #[.slice a3 n3 p3, .bool fa, .slice a4 n4 p4] 25)) = w0 at *
    rw [← hsW] at HBX HBW
    clear hsW
    have hb0 := HBW.out w0 (Below.refl _ _)
    refine (check_any T fa c _ _ _ w0 (HU.out w0 hb0)).mono ?_
    rintro e w3 ⟨rfl, hb3⟩
    obtain ⟨x0, x1, x2, x3, x4, x5, x6, x7⟩ := HBX.out w3 hb3
    go_wp2_with fail
    refine (checkR_any T fa c _ _ _ w3 (HT.out w3 (below_more hb0 hb3))).mono ?_
    rintro e w4 ⟨rfl, hb4⟩
    have HK := hid (Took.none HW.out (below_more (below_more hb0 hb3) hb4) (M := N + 2001) (by omega))
    have n0 : ((chk T c).1 == (chk T c).1) = true := by simp
    have n1 : ((chk T c).2 == (chk T c).2) = true := by simp
    clear x0 x1 x2 x3 x4 x5 x6 x7
    go_wp2_with fail
    go_ret
    exact ⟨rfl, HK.out⟩
  by_cases k3 : kd = 3
  · subst k3
    go_enter Tryz.func35, Tryz.ntmps35
    go_wp2_with fail
    have hsW : (((w.alloc (.cells #[.int .i64 3, .int .i64 a, .int .i64 bn] 43)).alloc (.cells #[.slice a1 n1 p1, .bool fa, .slice a2 n2 p2] 25)).alloc (.cells #[.slice a3 n3 p3, .bool fa, .slice a4 n4 p4] 25)).heap.size = w.heap.size + 1 + 1 + 1 := by simp
    generalize (((w.alloc (.cells #[.int .i64 3, .int .i64 a, .int .i64 bn] 43)).alloc (.cells #[.slice a1 n1 p1, .bool fa, .slice a2 n2 p2] 25)).alloc (.cells #[.slice a3 n3 p3, .bool fa, .slice a4 n4 p4] 25)) = w0 at *
    rw [← hsW] at HBX HBW
    clear hsW
    have hb0 := HBW.out w0 (Below.refl _ _)
    refine (sizeP_any T fa c _ _ _ w0 (HU.out w0 hb0)).mono ?_
    rintro e w3 ⟨rfl, hb3⟩
    obtain ⟨x0, x1, x2, x3, x4, x5, x6, x7⟩ := HBX.out w3 hb3
    go_wp2_with fail
    refine (sizeR_any T fa c _ _ _ w3 (HT.out w3 (below_more hb0 hb3))).mono ?_
    rintro e w4 ⟨rfl, hb4⟩
    have HK := hid (Took.none HW.out (below_more (below_more hb0 hb3) hb4) (M := N + 2001) (by omega))
    have n0 : ((chk T c).1 == (chk T c).1) = true := by simp
    have n1 : (((sizR T c : Nat) : Int) == ((sizR T c : Nat) : Int)) = true := by simp
    clear x0 x1 x2 x3 x4 x5 x6 x7
    go_wp2_with fail
    go_ret
    exact ⟨rfl, HK.out⟩
  by_cases k2 : kd = 2
  · subst k2
    go_enter Tryz.func35, Tryz.ntmps35
    go_wp2_with fail
    have hsW : (((w.alloc (.cells #[.int .i64 2, .int .i64 a, .int .i64 bn] 43)).alloc (.cells #[.slice a1 n1 p1, .bool fa, .slice a2 n2 p2] 25)).alloc (.cells #[.slice a3 n3 p3, .bool fa, .slice a4 n4 p4] 25)).heap.size = w.heap.size + 1 + 1 + 1 := by simp
    generalize (((w.alloc (.cells #[.int .i64 2, .int .i64 a, .int .i64 bn] 43)).alloc (.cells #[.slice a1 n1 p1, .bool fa, .slice a2 n2 p2] 25)).alloc (.cells #[.slice a3 n3 p3, .bool fa, .slice a4 n4 p4] 25)) = w0 at *
    rw [← hsW] at HBX HBW
    clear hsW
    have hb0 := HBW.out w0 (Below.refl _ _)
    refine (eventsP_own T fa c _ _ _ w0 (HU.out w0 hb0)).mono ?_
    rintro e w3 ⟨u, rfl, hu, hb3⟩
    obtain ⟨x0, x1, x2, x3, x4, x5, x6, x7⟩ := HBX.out w3 hb3
    have HO := hid hu
    obtain ⟨ao5, cap5, hf5, _⟩ := own_form hu
    subst hf5
    clear hu
    go_wp2_with fail
    refine (eventsR_any T fa c _ _ _ w3 (HT.out w3 (below_more hb0 hb3))).mono ?_
    rintro e w4 ⟨u4, rfl, hu4, hb4⟩
    clear x0 x1 x2 x3 x4 x5 x6 x7
    have hl4 : (evsR T c).length ≤ 96 := evsR_len96 T c
    obtain ⟨ao6, b6, off6, cap6, hs6⟩ := id hu4
    have hf6 := hs6.hv
    subst hf6
    have HS4 := hid (sameEvents_any (evsR T c) hl4 _ _ w4 ((owns_ev4c HO.out).at'.keep hb4) hu4)
    clear hu4 hs6
    go_wp2_with fail
    refine HS4.out.mono ?_
    rintro e w5 ⟨rfl, hb5⟩
    have hb35 := below_more hb4 hb5
    have hbw5 := below_more (below_more hb0 hb3) hb35
    have hO5 := own_keep HO.out hb35
    have hlt5 := HO.out.lt
    have HLT := hid (listed_any b0 R vts vxs N V F MB _ w5 (HW.out.more hbw5) (by omega) _ _ _ _ hO5 (fun b hb => .inr ⟨by have := (hlt5 b hb).1; have := hb0.size; omega, (hO5.lt b hb).2⟩))
    have HSN : Hid (∀ w6, Took b0 w5 w6 R vts vxs (N + 1) (fun b => P b ∨ (w.heap.size ≤ b ∧ b < w5.heap.size)) (fun b => (P b ∨ (w.heap.size ≤ b ∧ b < w5.heap.size)) ∧ (Value.slice ao5 (evsR T c).length cap5).ownBlock ≠ some b) → Took b0 w w6 R vts vxs (N + 2001) P P) := fun w6 t => Took.since HW.out hbw5 t (fun b hp => ⟨.inl hp, fun e => by have := (hlt5 b e).1; have := (HW.out.pend b hp).2.1; have := hb0.size; omega⟩) (by omega)
    clear hO5 hlt5 HO HS4
    go_wp2_with fail
    refine HLT.out.mono ?_
    rintro e w6 ⟨r, rfl, ht6⟩
    have HK := hid (HSN.out w6 ht6)
    have n0 : ((chk T c).1 == (chk T c).1) = true := by simp
    clear ht6 HLT HSN
    go_wp2_with fail
    go_ret
    exact ⟨rfl, HK.out⟩
  by_cases k4 : kd = 4
  · subst k4
    go_enter Tryz.func35, Tryz.ntmps35
    go_wp2_with fail
    have hsW : (((w.alloc (.cells #[.int .i64 4, .int .i64 a, .int .i64 bn] 43)).alloc (.cells #[.slice a1 n1 p1, .bool fa, .slice a2 n2 p2] 25)).alloc (.cells #[.slice a3 n3 p3, .bool fa, .slice a4 n4 p4] 25)).heap.size = w.heap.size + 1 + 1 + 1 := by simp
    generalize (((w.alloc (.cells #[.int .i64 4, .int .i64 a, .int .i64 bn] 43)).alloc (.cells #[.slice a1 n1 p1, .bool fa, .slice a2 n2 p2] 25)).alloc (.cells #[.slice a3 n3 p3, .bool fa, .slice a4 n4 p4] 25)) = w0 at *
    rw [← hsW] at HBX HBW
    clear hsW
    have hb0 := HBW.out w0 (Below.refl _ _)
    refine (candP_own T fa c _ _ _ bn w0 (HU.out w0 hb0)).mono ?_
    rintro e w3 ⟨vf, vo, rfl, hx, hb3⟩
    obtain ⟨hxl1, hxl2, hxl3⟩ := cExe_small T c bn
    generalize hxx : cExe T c bn = xx at *
    have HXX := hid hxx
    clear hxx
    obtain ⟨aof, cf, hff⟩ := hx.new.at'.f.form
    obtain ⟨aoo, bo, oo, co, hso⟩ := hx.new.at'.o
    have hfo := hso.hv
    subst hff hfo
    have HX := hid hx
    generalize hl1 : xx.from'.length = l1 at *
    generalize hl2 : xx.order.length = l2 at *
    have HL1 := hid hl1
    have HL2 := hid hl2
    clear hx hso hl1 hl2
    have hba3 := below_alloc w3 (.cells #[.slice aof l1 cf, .slice aoo l2 co] 29)
    have hb3a := below_more hb3 hba3
    obtain ⟨x0, x1, x2, x3, x4, x5, x6, x7⟩ := HBX.out _ hb3a
    have s3 : w3.heap.size < (w3.alloc (.cells #[.slice aof l1 cf, .slice aoo l2 co] 29)).heap.size := by simp
    have y0 : (w3.alloc (.cells #[.slice aof l1 cf, .slice aoo l2 co] 29)).cell? ⟨w3.heap.size, 0, none⟩ = some (.slice aof l1 cf) := by simp
    have y1 : (w3.alloc (.cells #[.slice aof l1 cf, .slice aoo l2 co] 29)).cell? ⟨w3.heap.size, 1, none⟩ = some (.slice aoo l2 co) := by simp
    obtain ⟨z0, z1, z2, z3, z4, z5, z6, z7⟩ := HBX.out _ hb3
    go_wp2_with fail
    clear z0 z1 z2 z3 z4 z5 z6 z7
    generalize w3.alloc (.cells #[.slice aof l1 cf, .slice aoo l2 co] 29) = W3 at *
    refine (candR_any T fa c _ _ _ bn W3 (HT.out W3 (below_more hb0 hb3a))).mono ?_
    rintro e w4 ⟨vf4, vo4, rfl, hx4, hb4⟩
    rw [HXX.out] at hx4
    obtain ⟨aof4, cf4, hff4⟩ := hx4.f.form
    obtain ⟨aoo4, bo4, oo4, co4, hso4⟩ := hx4.o
    have hfo4 := hso4.hv
    subst hff4 hfo4
    have hba4 := below_alloc w4 (.cells #[.slice aof4 xx.from'.length cf4, .slice aoo4 xx.order.length co4] 29)
    have hb4a := below_more hb4 hba4
    have HSE := hid (sameExec_any xx (by rw [HL1.out]; omega) (by rw [HL2.out]; omega) (fun y hy => by have := hxl3 y hy; omega) _ _ _ _ (w4.alloc (.cells #[.slice aof4 xx.from'.length cf4, .slice aoo4 xx.order.length co4] 29)) (HX.out.new.at'.keep (below_more hba3 hb4a)) (hx4.keep hba4))
    replace y0 := keep_cell hb4a y0
    replace y1 := keep_cell hb4a y1
    have v0 : (w4.alloc (.cells #[.slice aof4 xx.from'.length cf4, .slice aoo4 xx.order.length co4] 29)).cell? ⟨w4.heap.size, 0, none⟩ = some (.slice aof4 xx.from'.length cf4) := by simp
    have v1 : (w4.alloc (.cells #[.slice aof4 xx.from'.length cf4, .slice aoo4 xx.order.length co4] 29)).cell? ⟨w4.heap.size, 1, none⟩ = some (.slice aoo4 xx.order.length co4) := by simp
    clear hso4 hx4 x0 x1 x2 x3 x4 x5 x6 x7
    go_wp2_with fail
    refine HSE.out.mono ?_
    rintro e w5 ⟨rfl, hb5⟩
    have hb35 := below_more (below_more hba3 hb4a) hb5
    have hbw5 := below_more (below_more hb0 hb3) hb35
    replace y0 := keep_cell hb5 y0
    replace y1 := keep_cell hb5 y1
    have hx5 : ExeF w0.heap.size w5 (.slice aof l1 cf) (.slice aoo l2 co) xx := HX.out.other fun b _ hb2 => hb35.block b hb2
    have hs05 : w0.heap.size ≤ w5.heap.size := by have := hb3.size; have := hb35.size; omega
    have hs0 := hb0.size
    have HSH := hid (shown_any b0 R vts vxs N V F MB _ w5 (HW.out.more hbw5) (by omega) w0.heap.size _ _ xx hx5 (by rw [HL2.out]; omega) hs05 (fun b h1 h2 => .inr ⟨by omega, h2⟩))
    have HSN : Hid (∀ w6, Took b0 w5 w6 R vts vxs (N + 2001) (fun b => P b ∨ (w.heap.size ≤ b ∧ b < w5.heap.size)) (fun b => (P b ∨ (w.heap.size ≤ b ∧ b < w5.heap.size)) ∧ b < w0.heap.size) → Took b0 w w6 R vts vxs (N + 2001) P P) := fun w6 t => Took.since HW.out hbw5 t (fun b hp => ⟨.inl hp, by have := (HW.out.pend b hp).2.1; omega⟩) (by omega)
    clear hx5 HX HSE v0 v1
    go_wp2_with fail
    refine HSH.out.mono ?_
    rintro e w6 ⟨r, rfl, ht6⟩
    have HK := hid (HSN.out w6 ht6)
    clear ht6 HSH HSN
    have n0 : (cErr T c bn == cErr T c bn) = true := by simp
    go_wp2_with fail
    go_ret
    exact ⟨rfl, HK.out⟩
  by_cases k9 : kd = 9
  · subst k9
    go_enter Tryz.func35, Tryz.ntmps35
    go_wp2_with fail
    have hsW : (((w.alloc (.cells #[.int .i64 9, .int .i64 a, .int .i64 bn] 43)).alloc (.cells #[.slice a1 n1 p1, .bool fa, .slice a2 n2 p2] 25)).alloc (.cells #[.slice a3 n3 p3, .bool fa, .slice a4 n4 p4] 25)).heap.size = w.heap.size + 1 + 1 + 1 := by simp
    generalize (((w.alloc (.cells #[.int .i64 9, .int .i64 a, .int .i64 bn] 43)).alloc (.cells #[.slice a1 n1 p1, .bool fa, .slice a2 n2 p2] 25)).alloc (.cells #[.slice a3 n3 p3, .bool fa, .slice a4 n4 p4] 25)) = w0 at *
    rw [← hsW] at HBX HBW
    clear hsW
    have hb0 := HBW.out w0 (Below.refl _ _)
    refine (witnessP_own T fa c al hal _ _ w0 (HU.out w0 hb0)).mono ?_
    rintro e w3 ⟨nn, vf, vo, er, rfl, hwo, hb3⟩
    have HWO := hid hwo
    obtain ⟨xx, hx, hxl2⟩ := hwo.exe3
    clear hwo
    obtain ⟨aof, cf, hff⟩ := hx.new.at'.f.form
    obtain ⟨aoo, bo, oo, co, hso⟩ := hx.new.at'.o
    have hfo := hso.hv
    subst hff hfo
    have HX := hid hx
    generalize hl1 : xx.from'.length = l1 at *
    generalize hl2 : xx.order.length = l2 at *
    have HL1 := hid hl1
    have HL2 := hid hl2
    clear hx hso hl1 hl2
    have hba3 := below_alloc w3 (.cells #[.slice aof l1 cf, .slice aoo l2 co] 29)
    have hb3a := below_more hb3 hba3
    obtain ⟨x0, x1, x2, x3, x4, x5, x6, x7⟩ := HBX.out _ hb3a
    have s3 : w3.heap.size < (w3.alloc (.cells #[.slice aof l1 cf, .slice aoo l2 co] 29)).heap.size := by simp
    have y0 : (w3.alloc (.cells #[.slice aof l1 cf, .slice aoo l2 co] 29)).cell? ⟨w3.heap.size, 0, none⟩ = some (.slice aof l1 cf) := by simp
    have y1 : (w3.alloc (.cells #[.slice aof l1 cf, .slice aoo l2 co] 29)).cell? ⟨w3.heap.size, 1, none⟩ = some (.slice aoo l2 co) := by simp
    obtain ⟨z0, z1, z2, z3, z4, z5, z6, z7⟩ := HBX.out _ hb3
    go_wp2_with fail
    clear z0 z1 z2 z3 z4 z5 z6 z7
    generalize w3.alloc (.cells #[.slice aof l1 cf, .slice aoo l2 co] 29) = W3 at *
    refine (witnessR_any T fa c al hal _ _ W3 (HT.out W3 (below_more hb0 hb3a))).mono ?_
    rintro e w4 ⟨nn4, vf4, vo4, er4, rfl, hwo4, hb4⟩
    obtain ⟨hn4, her4, yy, ⟨hy1, hy2, hy3⟩, hy, hx4⟩ := WOut.same HWO.out.at' hwo4
    subst hn4 her4
    clear hwo4 HWO
    obtain ⟨aof4, cf4, hff4⟩ := hx4.f.form
    obtain ⟨aoo4, bo4, oo4, co4, hso4⟩ := hx4.o
    have hfo4 := hso4.hv
    subst hff4 hfo4
    have hba4 := below_alloc w4 (.cells #[.slice aof4 yy.from'.length cf4, .slice aoo4 yy.order.length co4] 29)
    have hb4a := below_more hb4 hba4
    have HSE := hid (sameExec_any yy hy1 hy2 hy3 _ _ _ _ (w4.alloc (.cells #[.slice aof4 yy.from'.length cf4, .slice aoo4 yy.order.length co4] 29)) (hy.keep (below_more hba3 hb4a)) (hx4.keep hba4))
    replace y0 := keep_cell hb4a y0
    replace y1 := keep_cell hb4a y1
    have v0 : (w4.alloc (.cells #[.slice aof4 yy.from'.length cf4, .slice aoo4 yy.order.length co4] 29)).cell? ⟨w4.heap.size, 0, none⟩ = some (.slice aof4 yy.from'.length cf4) := by simp
    have v1 : (w4.alloc (.cells #[.slice aof4 yy.from'.length cf4, .slice aoo4 yy.order.length co4] 29)).cell? ⟨w4.heap.size, 1, none⟩ = some (.slice aoo4 yy.order.length co4) := by simp
    clear hso4 hx4 x0 x1 x2 x3 x4 x5 x6 x7
    go_wp2_with fail
    refine HSE.out.mono ?_
    rintro e w5 ⟨rfl, hb5⟩
    have hb35 := below_more (below_more hba3 hb4a) hb5
    have hbw5 := below_more (below_more hb0 hb3) hb35
    replace y0 := keep_cell hb5 y0
    replace y1 := keep_cell hb5 y1
    have hx5 : ExeF w0.heap.size w5 (.slice aof l1 cf) (.slice aoo l2 co) xx := HX.out.other fun b _ hb2 => hb35.block b hb2
    have hs05 : w0.heap.size ≤ w5.heap.size := by have := hb3.size; have := hb35.size; omega
    have hs0 := hb0.size
    have HSH := hid (shown_any b0 R vts vxs N V F MB _ w5 (HW.out.more hbw5) (by omega) w0.heap.size _ _ xx hx5 (by rw [HL2.out]; omega) hs05 (fun b h1 h2 => .inr ⟨by omega, h2⟩))
    have HSN : Hid (∀ w6, Took b0 w5 w6 R vts vxs (N + 2001) (fun b => P b ∨ (w.heap.size ≤ b ∧ b < w5.heap.size)) (fun b => (P b ∨ (w.heap.size ≤ b ∧ b < w5.heap.size)) ∧ b < w0.heap.size) → Took b0 w w6 R vts vxs (N + 2001) P P) := fun w6 t => Took.since HW.out hbw5 t (fun b hp => ⟨.inl hp, by have := (HW.out.pend b hp).2.1; omega⟩) (by omega)
    clear hx5 HX HSE v0 v1
    go_wp2_with fail
    refine HSH.out.mono ?_
    rintro e w6 ⟨r, rfl, ht6⟩
    have HK := hid (HSN.out w6 ht6)
    clear ht6 HSH HSN
    have n0 : (nn == nn) = true := by simp
    have n1 : (er == er) = true := by simp
    go_wp2_with fail
    go_ret
    exact ⟨rfl, HK.out⟩
  by_cases k7 : kd = 7
  · subst k7
    go_enter Tryz.func35, Tryz.ntmps35
    go_wp2_with fail
    have hsW : (((w.alloc (.cells #[.int .i64 7, .int .i64 a, .int .i64 bn] 43)).alloc (.cells #[.slice a1 n1 p1, .bool fa, .slice a2 n2 p2] 25)).alloc (.cells #[.slice a3 n3 p3, .bool fa, .slice a4 n4 p4] 25)).heap.size = w.heap.size + 1 + 1 + 1 := by simp
    generalize (((w.alloc (.cells #[.int .i64 7, .int .i64 a, .int .i64 bn] 43)).alloc (.cells #[.slice a1 n1 p1, .bool fa, .slice a2 n2 p2] 25)).alloc (.cells #[.slice a3 n3 p3, .bool fa, .slice a4 n4 p4] 25)) = w0 at *
    rw [← hsW] at HBX HBW
    clear hsW
    have hb0 := HBW.out w0 (Below.refl _ _)
    refine (outcomesP_own T fa c al hal _ _ w0 (HU.out w0 hb0)).mono ?_
    rintro e w3 ⟨u, er, rfl, hoo, hb3⟩
    obtain ⟨x0, x1, x2, x3, x4, x5, x6, x7⟩ := HBX.out w3 hb3
    obtain ⟨KK, hKK, hKl⟩ := hoo.out
    have HO := hid hoo
    have HKF := hid hKK
    obtain ⟨ao5, n5, cap5, hf5⟩ : ∃ ao n cap, u = .slice ao n cap := by
      obtain ⟨K, _, q, _⟩ := hKK
      obtain ⟨ao, cap, q1, _⟩ := own_form q
      exact ⟨ao, _, cap, q1⟩
    subst hf5
    clear hoo hKK
    go_wp2_with fail
    refine (outcomesR_any T fa c al hal _ _ w3 (HT.out w3 (below_more hb0 hb3))).mono ?_
    rintro e w4 ⟨u4, er4, rfl, ho4, hb4⟩
    clear x0 x1 x2 x3 x4 x5 x6 x7
    obtain ⟨her, K, hK1, hK2, hK3, hK4⟩ := OOut.same HO.out.at' ho4
    subst her
    obtain ⟨ao6, b6, off6, cap6, hs6⟩ := id hK4
    have hf6 := hs6.hv
    subst hf6
    have HS4 := hid (sameOutcomes_any K hK1 hK2 _ _ w4 (hK3.keep hb4) hK4)
    clear hK3 hK4 hs6 ho4 HO
    go_wp2_with fail
    refine HS4.out.mono ?_
    rintro e w5 ⟨rfl, hb5⟩
    have hb35 := below_more hb4 hb5
    have hbw5 := below_more (below_more hb0 hb3) hb35
    have hs05 : w0.heap.size ≤ w5.heap.size := by have := hb3.size; have := hb35.size; omega
    have hs0 := hb0.size
    have HSH := hid (ended_any b0 R vts vxs N V F MB _ w5 (HW.out.more hbw5) (by omega) w0.heap.size _ KK (HKF.out.keep hb35) hKl (fun b h1 h2 => .inr ⟨by omega, h2⟩))
    have HSN : Hid (∀ w6, Took b0 w5 w6 R vts vxs (N + 2001) (fun b => P b ∨ (w.heap.size ≤ b ∧ b < w5.heap.size)) (fun b => (P b ∨ (w.heap.size ≤ b ∧ b < w5.heap.size)) ∧ b < w0.heap.size) → Took b0 w w6 R vts vxs (N + 2001) P P) := fun w6 t => Took.since HW.out hbw5 t (fun b hp => ⟨.inl hp, by have := (HW.out.pend b hp).2.1; omega⟩) (by omega)
    clear HKF HS4
    go_wp2_with fail
    refine HSH.out.mono ?_
    rintro e w6 ⟨r, rfl, ht6⟩
    have HK := hid (HSN.out w6 ht6)
    have n0 : (er == er) = true := by simp
    clear ht6 HSH HSN
    go_wp2_with fail
    go_ret
    exact ⟨rfl, HK.out⟩
  by_cases k8 : kd = 8
  · subst k8
    obtain ⟨r1, r2, r3, r4, er, hvv⟩ : ∃ (r1 r2 r3 : Int) (r4 : Bool) (er : Int), verV T c fa al = .tuple #[.agg #[.int .i64 r1, .int .i64 r2, .int .i64 r3, .bool r4], .int .i64 er] := by
      unfold verV
      cases (chk T c).1 == 0
      · exact ⟨_, _, _, _, _, rfl⟩
      · exact ⟨_, _, _, _, _, rfl⟩
    have HV8 := hid hvv
    clear hvv
    go_enter Tryz.func35, Tryz.ntmps35
    go_wp2_with fail
    have hsW : (((w.alloc (.cells #[.int .i64 8, .int .i64 a, .int .i64 bn] 43)).alloc (.cells #[.slice a1 n1 p1, .bool fa, .slice a2 n2 p2] 25)).alloc (.cells #[.slice a3 n3 p3, .bool fa, .slice a4 n4 p4] 25)).heap.size = w.heap.size + 1 + 1 + 1 := by simp
    generalize (((w.alloc (.cells #[.int .i64 8, .int .i64 a, .int .i64 bn] 43)).alloc (.cells #[.slice a1 n1 p1, .bool fa, .slice a2 n2 p2] 25)).alloc (.cells #[.slice a3 n3 p3, .bool fa, .slice a4 n4 p4] 25)) = w0 at *
    rw [← hsW] at HBX HBW
    clear hsW
    have hb0 := HBW.out w0 (Below.refl _ _)
    refine (verdictP_any T fa c al hal _ _ w0 (HU.out w0 hb0)).mono ?_
    rw [HV8.out]
    rintro e w3 ⟨rfl, hb3⟩
    obtain ⟨x0, x1, x2, x3, x4, x5, x6, x7⟩ := HBX.out w3 hb3
    have hba3 := below_alloc w3 (.cells #[.int .i64 r1, .int .i64 r2, .int .i64 r3, .bool r4] 60)
    have hb3a := below_more hb3 hba3
    obtain ⟨z0, z1, z2, z3, z4, z5, z6, z7⟩ := HBX.out _ hb3a
    have y0 : (w3.alloc (.cells #[.int .i64 r1, .int .i64 r2, .int .i64 r3, .bool r4] 60)).cell? ⟨w3.heap.size, 0, none⟩ = some (.int .i64 r1) := by simp
    have y1 : (w3.alloc (.cells #[.int .i64 r1, .int .i64 r2, .int .i64 r3, .bool r4] 60)).cell? ⟨w3.heap.size, 1, none⟩ = some (.int .i64 r2) := by simp
    have y2 : (w3.alloc (.cells #[.int .i64 r1, .int .i64 r2, .int .i64 r3, .bool r4] 60)).cell? ⟨w3.heap.size, 2, none⟩ = some (.int .i64 r3) := by simp
    have y3 : (w3.alloc (.cells #[.int .i64 r1, .int .i64 r2, .int .i64 r3, .bool r4] 60)).cell? ⟨w3.heap.size, 3, none⟩ = some (.bool r4) := by simp
    go_wp2_with fail
    generalize w3.alloc (.cells #[.int .i64 r1, .int .i64 r2, .int .i64 r3, .bool r4] 60) = W3 at *
    refine (verdictR_any T fa c al hal _ _ W3 (HT.out W3 (below_more hb0 hb3a))).mono ?_
    rw [HV8.out]
    rintro e w4 ⟨rfl, hb4⟩
    clear x0 x1 x2 x3 x4 x5 x6 x7 z0 z1 z2 z3 z4 z5 z6 z7
    have hba4 := below_alloc w4 (.cells #[.int .i64 r1, .int .i64 r2, .int .i64 r3, .bool r4] 60)
    have hb4a := below_more hb4 hba4
    have hl4 : w3.heap.size < w4.heap.size := by have := World.block_lt_of_cell? _ _ y0; have := hb4.size; simp only at *; omega
    replace y0 := keep_cell hb4 y0
    replace y1 := keep_cell hb4 y1
    replace y2 := keep_cell hb4 y2
    replace y3 := keep_cell hb4 y3
    go_wp2_with fail
    refine (sameReport_any r1 r2 r3 r4 _).mono ?_
    rintro e w5 ⟨rfl, hb5⟩
    have HK := hid (Took.none HW.out (below_more (below_more (below_more hb0 hb3a) hb4a) hb5) (M := N + 2001) (by omega))
    have n0 : (er == er) = true := by simp
    clear y0 y1 y2 y3
    go_wp2_with fail
    go_ret
    exact ⟨rfl, HK.out⟩
  have k1' : (kd == 1) = false := by simpa using k1
  have k2' : (kd == 2) = false := by simpa using k2
  have k3' : (kd == 3) = false := by simpa using k3
  have k4' : (kd == 4) = false := by simpa using k4
  have k7' : (kd == 7) = false := by simpa using k7
  have k8' : (kd == 8) = false := by simpa using k8
  have k9' : (kd == 9) = false := by simpa using k9
  have HK := hid (Took.none HW.out hba (M := N + 2001) (by omega))
  go_enter Tryz.func35, Tryz.ntmps35
  go_wp2_with fail
  go_ret
  exact ⟨rfl, HK.out⟩

end Go.Proofs.YtomijmikkbhgmaaGreat

namespace Go.Proofs.YtomijmikkbhgmaaGreat
open Go.RowKit

/-- The same numbers in a list of their own, with a mark behind them. -/
def Wid (B : Nat) (w : World) (v : Value) (l : List Int) : Prop := ∃ g cap, v = .slice (some ⟨g, 0, none⟩) l.length cap ∧ w.ownsRow B 3 1 (.slice (some ⟨g, 0, none⟩) (l.length + 1) cap) (l.length + 1) (l.map (Value.int .i64) ++ [.int .i64 (-1000)])
theorem Wid.other {B : Nat} {w w' : World} {v : Value} {l : List Int} (h : Wid B w v l) (hs : ∀ b, v.ownBlock = some b → w'.heap[b]? = w.heap[b]?) : Wid B w' v l := by
  obtain ⟨g, cap, rfl, h2⟩ := h
  exact ⟨g, cap, rfl, own_other h2 fun b hb => hs b hb⟩
theorem Wid.lt {B : Nat} {w : World} {v : Value} {l : List Int} (h : Wid B w v l) {b : Nat} (hb : v.ownBlock = some b) : B ≤ b ∧ b < w.heap.size := by
  obtain ⟨g, cap, rfl, h2⟩ := h
  exact h2.lt b hb
theorem Wid.at' {B : Nat} {w : World} {v : Value} {l : List Int} (h : Wid B w v l) : IntAt w v l := by
  obtain ⟨g, cap, rfl, h2⟩ := h
  refine ⟨some ⟨g, 0, none⟩, g, 0, cap, rfl, fun _ => rfl, fun q => (by simp at q), fun k x hk => ?_⟩
  have hkl := (List.getElem?_eq_some_iff.1 hk).1
  unfold IntC
  rw [Nat.mul_one, Nat.zero_add, h2.cellAt k (by omega), List.getElem?_append_left (by simpa using hkl), List.getElem?_map, hk]
  rfl
theorem Wid.last {B : Nat} {w : World} {g n cap : Nat} {l : List Int} (h : Wid B w (.slice (some ⟨g, 0, none⟩) n cap) l) : n = l.length ∧ n + 1 ≤ cap ∧ w.cell? ⟨g, l.length, none⟩ = some (.int .i64 (-1000)) := by
  obtain ⟨g', cap', hv, h2⟩ := h
  simp only [Value.slice.injEq, Option.some.injEq, Addr.mk.injEq, and_true] at hv
  obtain ⟨rfl, hn, rfl⟩ := hv
  subst hn
  refine ⟨rfl, ?_, ?_⟩
  · rcases h2.2 with ⟨q, _⟩ | ⟨_, _, _, q, _, _, q1, _⟩
    · cases q
    · cases q; exact q1
  · rw [h2.cellAt l.length (by omega), List.getElem?_append_right (by simp)]
    simp

set_option maxHeartbeats 2000000 in
theorem wide_any (l : List Int) (hl : l.length ≤ 4000000) (v : Value) (w : World) (h : IntAt w v l) :
    Calls Tryz.prog 116 #[v] w fun e w' => ∃ u, e = .returned u ∧ Wid w.heap.size w' u l ∧ Below w.heap.size w w' := by
  obtain ⟨ao, b, off, cap, hs⟩ := h
  have hv := hs.hv
  subst hv
  have HS := hid hs
  clear hs
  obtain ⟨i0, hi, hz0, hz1, hz2⟩ := info_parts Tryz.info3
  have HI : Hid (Tryz.prog.info? 3 = some i0 ∧ i0.zero = some (.int .i64 0) ∧ i0.size = 1 ∧ i0.bytes = 8) := ⟨hi, hz0, hz1, hz2⟩
  clear hi hz0 hz1 hz2
  go_enter Tryz.func116, Tryz.ntmps116
  go_wp2_with (at_builtin; refine append_new _ rfl (.tmp 4) (.tmp 5) 26 rfl w.heap.size 3 i0 (.int .i64 0) 1 8 Tryz.underlying26 HI.out.1 HI.out.2.1 HI.out.2.2.1 HI.out.2.2.2 rfl (by decide) (.slice none 0 0) 0 [] rfl (World.ownsRow_nil _ _ _ _) ao l.length cap (l.map (Value.int .i64)) rfl (fun h => ⟨by rw [(HS.out.hn h).1]; rfl, (HS.out.hn h).2⟩) (by simp) (int_cells HS.out) (ints_oneCell .i64 l) (by unfold maxLen; omega) (by omega) (Nat.le_refl _) ?_)
  intro v1 w1 hown1 hgrow1 _
  have hb1 : Below w.heap.size w w1 := Below.grown (Below.refl _ _) hgrow1 (Nat.le_refl _) (fun kk e => by simp [Value.ownBlock] at e)
  have hw1 : w1.ownsRow w.heap.size 3 1 v1 l.length (l.map (Value.int .i64)) := by simpa using hown1
  have hs1 := hb1.size
  clear hown1 hgrow1
  go_wp2_with (at_builtin; refine append_new _ rfl (.tmp 7) (.tmp 8) 26 rfl w.heap.size 3 i0 (.int .i64 0) 1 8 Tryz.underlying26 HI.out.1 HI.out.2.1 HI.out.2.2.1 HI.out.2.2.2 rfl (by decide) v1 l.length (l.map (Value.int .i64)) rfl (hw1.alloc _) (some ⟨w1.heap.size, 0, none⟩) 1 1 [.int .i64 (-1000)] rfl (fun h => by cases h) rfl (fun ad had => by cases had; exact new_one rfl) (by simp [Value.oneCell']) (by unfold maxLen; omega) (by omega) (by simp; omega) ?_)
  intro v2 w2 hown2 hgrow2 _
  have hb2 : Below w.heap.size w w2 := Below.grown (hb1.alloc hs1 _) hgrow2 (by simp; omega) (fun kk e => (hw1.lt kk e).1)
  obtain ⟨g, cap2, hv2, hnc, hcm⟩ : ∃ g cap2, v2 = .slice (some ⟨g, 0, none⟩) (l.length + 1) cap2 ∧ l.length + 1 ≤ cap2 ∧ cap2 ≤ 9223372036854775807 := by
    rcases hown2.2 with ⟨_, h0⟩ | ⟨g, cap2, _, q, _, _, q1, q2, _⟩
    · omega
    · exact ⟨g, cap2, q, q1, q2⟩
  subst hv2
  have HO2 := hid hown2
  clear hown2 hgrow2 hw1
  go_wp2_with fail
  go_ret
  exact ⟨_, rfl, ⟨g, cap2, rfl, HO2.out⟩, hb2⟩

set_option maxHeartbeats 2000000 in
theorem still_any (B : Nat) (l : List Int) (hl : l.length ≤ 4000000) (u v : Value) (w : World) (hu : Wid B w u l) (hv : IntAt w v l) :
    Calls Tryz.prog 117 #[u, v] w fun e w' => e = .returned (.bool true) ∧ Below w.heap.size w w' := by
  have HSM := hid (sameInts_big l (by omega) u v w hu.at' hv)
  obtain ⟨ao, cap', hvf⟩ := hv.form
  obtain ⟨g, cap, rfl, ho⟩ := hu
  have hw : Wid B w (.slice (some ⟨g, 0, none⟩) l.length cap) l := ⟨g, cap, rfl, ho⟩
  obtain ⟨_, hnc, c0⟩ := hw.last
  have hcm : cap ≤ 9223372036854775807 := by
    rcases ho.2 with ⟨q, _⟩ | ⟨_, _, _, q, _, _, _, q1, _⟩
    · cases q
    · cases q; exact q1
  subst hvf
  clear ho hw hv
  go_enter Tryz.func117, Tryz.ntmps117
  go_wp2_with fail
  refine HSM.out.mono ?_
  rintro e w2 ⟨rfl, hb2⟩
  replace c0 := keep_cell hb2 c0
  clear HSM
  go_wp2_with fail
  go_ret
  exact ⟨rfl, hb2⟩

end Go.Proofs.YtomijmikkbhgmaaGreat

namespace Go.Proofs.YtomijmikkbhgmaaGreat
open Go.RowKit

/-- What lies between B and H may have been written, and memory made. -/
structure Btw (B H : Nat) (w w' : World) : Prop where
  os : w'.os = w.os
  tape : w'.tape = w.tape
  output : w'.output = w.output
  size : w.heap.size ≤ w'.heap.size
  block : ∀ b, b < w.heap.size → ¬ (B ≤ b ∧ b < H) → w'.heap[b]? = w.heap[b]?
theorem Btw.of_below {B H : Nat} {w w' : World} (h : Below w.heap.size w w') : Btw B H w w' := ⟨h.os, h.tape, h.output, h.size, fun b hb _ => h.block b hb⟩
theorem Btw.refl (B H : Nat) (w : World) : Btw B H w w := Btw.of_below (Below.refl _ _)
theorem Btw.trans {B H : Nat} {w w1 w2 : World} (h : Btw B H w w1) (k : Btw B H w1 w2) : Btw B H w w2 := ⟨k.os.trans h.os, k.tape.trans h.tape, k.output.trans h.output, Nat.le_trans h.size k.size, fun b hb hn => (k.block b (Nat.lt_of_lt_of_le hb h.size) hn).trans (h.block b hb hn)⟩
theorem Btw.of_only {B H g : Nat} {w w' : World} (h : Only g w w') (hg : B ≤ g ∧ g < H) : Btw B H w w' := ⟨h.os, h.tape, h.output, h.size, fun b hb hn => h.block b hb fun e => hn (by rw [e]; exact hg)⟩
theorem Btw.below {B H n : Nat} {w w' : World} (h : Btw B H w w') (hn : n ≤ B) (hs : n ≤ w.heap.size) : Below n w w' := ⟨h.os, h.tape, h.output, h.size, fun b hb => h.block b (by omega) (by omega)⟩

/-- An execution in lists of its own, each with a mark behind it. -/
structure ExeW (B H : Nat) (w : World) (vf vo : Value) (x : Exe) (us : List Value) : Prop where
  f : Wid B w vf x.from'
  o : ∃ g cap gz, vo = .slice (some ⟨g, 0, none⟩) x.order.length cap ∧ w.ownsRow B 26 1 (.slice (some ⟨g, 0, none⟩) (x.order.length + 1) cap) (x.order.length + 1) (us ++ [.slice (some ⟨gz, 0, none⟩) 1 1]) ∧ w.heap[gz]? = some (.cells #[.int .i64 (-1000)] 3 (0, 0)) ∧ B ≤ gz ∧ gz < H ∧ g < H
  len : us.length = x.order.length
  rows : ∀ (j : Nat) (l : List Int), x.order[j]? = some l → ∃ u, us[j]? = some u ∧ Wid B w u l ∧ ∀ b, u.ownBlock = some b → b < H
  fh : ∀ b, vf.ownBlock = some b → b < H

theorem Wid.ty {B : Nat} {w : World} {v : Value} {l : List Int} (h : Wid B w v l) {b : Nat} (hb : v.ownBlock = some b) : ∃ cur, w.heap[b]? = some (.cells cur 3 (0, 0)) := by
  obtain ⟨g, cap, rfl, h2⟩ := h
  exact own_ty h2 hb
theorem ExeW.keepT {B H : Nat} {w w' : World} {vf vo : Value} {x : Exe} {us : List Value} (h : ExeW B H w vf vo x us) (hs : ∀ b, B ≤ b → b < H → (∀ cur, w.heap[b]? ≠ some (.cells cur 29 (0, 0))) → w'.heap[b]? = w.heap[b]?) : ExeW B H w' vf vo x us := by
  obtain ⟨g, cap, gz, h1, h2, h3, h4, h5, h6⟩ := h.o
  have hW : ∀ {u : Value} {l : List Int}, Wid B w u l → (∀ b, u.ownBlock = some b → b < H) → Wid B w' u l := fun q hH => q.other fun b hb => hs b (q.lt hb).1 (hH b hb) fun cur e => by
    obtain ⟨cur', r⟩ := q.ty hb
    rw [r] at e; cases e
  refine ⟨hW h.f h.fh, ⟨g, cap, gz, h1, own_other h2 fun b hb => ?_, (hs gz h4 h5 fun cur e => by rw [h3] at e; cases e).trans h3, h4, h5, h6⟩, h.len, fun j l hl => ?_, h.fh⟩
  · have e : g = b := by simpa [Value.ownBlock] using hb
    subst e
    obtain ⟨cur', r⟩ := own_ty h2 (b := g) rfl
    exact hs g (h2.lt g rfl).1 h6 fun cur e => by rw [r] at e; cases e
  · obtain ⟨u, q1, q2, q3⟩ := h.rows j l hl
    exact ⟨u, q1, hW q2 q3, q3⟩
theorem ExeW.keep {B H : Nat} {w w' : World} {vf vo : Value} {x : Exe} {us : List Value} (h : ExeW B H w vf vo x us) (hs : ∀ b, B ≤ b → b < H → w'.heap[b]? = w.heap[b]?) : ExeW B H w' vf vo x us := h.keepT fun b h1 h2 _ => hs b h1 h2
theorem ExeW.at' {B H : Nat} {w : World} {vf vo : Value} {x : Exe} {us : List Value} (h : ExeW B H w vf vo x us) : ExeAt w vf vo x := by
  obtain ⟨g, cap, gz, h1, h2, _⟩ := h.o
  refine ⟨h.f.at', some ⟨g, 0, none⟩, g, 0, cap, h1, fun _ => rfl, fun q => (by simp at q), fun k l hk => ?_⟩
  obtain ⟨u, q1, q2, _⟩ := h.rows k l hk
  have hkl := (List.getElem?_eq_some_iff.1 hk).1
  refine ⟨u, ?_, q2.at'⟩
  rw [Nat.mul_one, Nat.zero_add, h2.cellAt k (by omega), List.getElem?_append_left (by have := h.len; omega)]
  exact q1

/-- execution's own memory. -/
structure XSt (w wr : World) (vo : Value) (C : Nat) (F : List Int) (uf V : Value) (L : List (List Int)) (us : List Value) : Prop where
  below : Below w.heap.size w wr
  b1 : wr.cell? ⟨w.heap.size, 1, none⟩ = some vo
  r : wr.heap[w.heap.size + 1]? = some (.cells #[.slice none 0 0, .slice none 0 0] 29 (0, 0))
  c : wr.heap[C]? = some (.cells #[uf, V] 29 (0, 0))
  hC : w.heap.size + 2 ≤ C
  fr : Wid (w.heap.size + 2) wr uf F
  own : wr.ownsRow (w.heap.size + 2) 26 1 V L.length us
  rows : ∀ (j : Nat) (l : List Int), L[j]? = some l → ∃ u, us[j]? = some u ∧ Wid (w.heap.size + 2) wr u l

theorem XSt.put {w w1 w2 : World} {vo : Value} {C : Nat} {F : List Int} {uf V V' : Value} {L : List (List Int)} {us us' : List Value} {n : Nat} (h : XSt w w1 vo C F uf V L us) {o : Obj} (hown : w2.ownsRow (w.heap.size + 2) 26 1 V' n us') (hg : (w1.alloc o).grownBy w2 V.ownBlock) :
    (∀ b, b < w1.heap.size → b ≠ C → (∀ cur, w1.heap[b]? ≠ some (.cells cur 26 (0, 0))) → (w2.setCell ⟨C, 1, none⟩ V').heap[b]? = w1.heap[b]?) ∧ w2.heap[C]? = some (.cells #[uf, V] 29 (0, 0)) ∧ (w2.setCell ⟨C, 1, none⟩ V').heap[C]? = some (.cells #[uf, V'] 29 (0, 0)) ∧ (w2.setCell ⟨C, 1, none⟩ V').ownsRow (w.heap.size + 2) 26 1 V' n us' ∧ Below w.heap.size w (w2.setCell ⟨C, 1, none⟩ V') ∧ (w2.setCell ⟨C, 1, none⟩ V').cell? ⟨w.heap.size, 1, none⟩ = some vo ∧ (w2.setCell ⟨C, 1, none⟩ V').heap[w.heap.size + 1]? = some (.cells #[.slice none 0 0, .slice none 0 0] 29 (0, 0)) ∧ Wid (w.heap.size + 2) (w2.setCell ⟨C, 1, none⟩ V') uf F := by
  have hC := h.hC
  have hCl := heap_ltA h.c
  have key2 : ∀ b, b < w1.heap.size → V.ownBlock ≠ some b → w2.heap[b]? = w1.heap[b]? := fun b hb hne => by
    rw [hg.block b (by simp; omega) (fun e => hne e.symm), Below.heap_alloc _ _ _ hb]
  have hVt : ∀ b, (∀ cur, w1.heap[b]? ≠ some (.cells cur 26 (0, 0))) → V.ownBlock ≠ some b := fun b hb e => by
    obtain ⟨cur, q⟩ := own_ty h.own e
    exact hb cur q
  have hC2 : w2.heap[C]? = some (.cells #[uf, V] 29 (0, 0)) := (key2 C hCl (hVt C fun cur q => by rw [h.c] at q; cases q)).trans h.c
  have hoth : ∀ b, b ≠ C → (w2.setCell ⟨C, 1, none⟩ V').heap[b]? = w2.heap[b]? := fun b hb => Below.heap_setCell _ _ _ _ hb
  have hlow : ∀ b, b < w.heap.size + 2 → b < w1.heap.size → (w2.setCell ⟨C, 1, none⟩ V').heap[b]? = w1.heap[b]? := fun b hb hb1 => by
    rw [hoth b (by omega), key2 b hb1 fun e => by have := (h.own.lt b e).1; omega]
  have hs1 := h.below.size
  have hs2 : w1.heap.size + 1 ≤ w2.heap.size := by have := hg.size; simpa using this
  have hrl := heap_ltA h.r
  refine ⟨fun b hb hbC hbt => by rw [hoth b hbC, key2 b hb (hVt b hbt)], hC2, by rw [heap_setCell_same _ _ _ _ _ _ hC2]; rfl, own_other hown fun b hb => hoth b fun e => ?_, ?_, cell_heap (hlow _ (by omega) (by omega)) h.b1, (hlow _ (by omega) hrl).trans h.r, h.fr.other fun b hb => ?_⟩
  · subst e
    obtain ⟨cur, q⟩ := own_ty hown hb
    rw [hC2] at q
    cases q
  · exact ⟨hg.os.trans h.below.os, hg.tape.trans h.below.tape, hg.output.trans h.below.output, by simp [World.setCell]; omega, fun b hb => (hlow b (by omega) (by omega)).trans (h.below.block b hb)⟩
  · obtain ⟨cur, q⟩ := h.fr.ty hb
    rw [hoth b (fun e => by rw [e, h.c] at q; cases q), key2 b (h.fr.lt hb).2 (hVt b fun cur' q' => by rw [q] at q'; cases q')]

theorem XSt.step {w wr w1 w2 : World} {vo : Value} {C : Nat} {F : List Int} {uf V V' : Value} {L : List (List Int)} {us : List Value} (h : XSt w wr vo C F uf V L us) (hb1 : Below wr.heap.size wr w1) {l : List Int} {u : Value} {o : Obj} (hu : Wid wr.heap.size w1 u l) (hown : w2.ownsRow (w.heap.size + 2) 26 1 V' (L.length + 1) (us ++ [u])) (hg : (w1.alloc o).grownBy w2 V.ownBlock) :
    XSt w (w2.setCell ⟨C, 1, none⟩ V') vo C F uf V' (L ++ [l]) (us ++ [u]) ∧ w2.heap[C]? = some (.cells #[uf, V] 29 (0, 0)) := by
  have h1 : XSt w w1 vo C F uf V L us := ⟨below_more h.below hb1, keep_cell hb1 h.b1, (hb1.block _ (heap_ltA h.r)).trans h.r, (hb1.block _ (heap_ltA h.c)).trans h.c, h.hC, h.fr.other fun b hb => hb1.block b (h.fr.lt hb).2, own_keep h.own hb1, fun j l hl => by
    obtain ⟨u, q1, q2⟩ := h.rows j l hl
    exact ⟨u, q1, q2.other fun b hb => hb1.block b (q2.lt hb).2⟩⟩
  obtain ⟨k0, k1, k2, k3, k4, k5, k6, k7⟩ := h1.put hown hg
  have hW : ∀ {B : Nat} {u : Value} {l : List Int}, Wid B w1 u l → Wid B (w2.setCell ⟨C, 1, none⟩ V') u l := fun q => q.other fun b hb => by
    obtain ⟨cur, r⟩ := q.ty hb
    exact k0 b (q.lt hb).2 (fun e => by rw [e, h1.c] at r; cases r) fun cur' r' => by rw [r] at r'; cases r'
  have hlen : us.length = L.length * 1 := h.own.1
  have hsz := h.below.size
  have hrl := heap_ltA h.r
  refine ⟨⟨k4, k5, k6, k2, h.hC, k7, by simpa using k3, fun j m hm => ?_⟩, k1⟩
  by_cases hj : j < L.length
  · rw [List.getElem?_append_left hj] at hm
    obtain ⟨z, q1, q2⟩ := h1.rows j m hm
    exact ⟨z, by rw [List.getElem?_append_left (by omega)]; exact q1, hW q2⟩
  · have hjL : j = L.length := by
      have := (List.getElem?_eq_some_iff.1 hm).1
      simp at this; omega
    subst hjL
    rw [List.getElem?_append_right (Nat.le_refl _), Nat.sub_self] at hm
    simp at hm
    subst hm
    refine ⟨u, by rw [List.getElem?_append_right (by omega), show L.length - us.length = 0 by omega]; rfl, ?_⟩
    obtain ⟨g, cap, e, q⟩ := hW hu
    exact ⟨g, cap, e, own_base q (by omega)⟩

set_option maxRecDepth 20000 in
set_option maxHeartbeats 4000000 in
theorem executionL_any (x : Exe) (h1 : x.from'.length ≤ 4000000) (h2 : x.order.length ≤ 4000000) (h3 : ∀ l ∈ x.order, l.length ≤ 4000000) (vf vo : Value) (w : World) (h : ExeAt w vf vo x) :
    Calls Tryz.prog 57 #[.agg #[vf, vo]] w fun e w' => ∃ uf uo us, e = .returned (.agg #[uf, uo]) ∧ ExeW w.heap.size w'.heap.size w' uf uo x us ∧ Below w.heap.size w w' := by
  obtain ⟨aof, capf, hff⟩ := h.f.form
  obtain ⟨aoo, bo, offo, capo, hso⟩ := h.o
  have hfo := hso.hv
  subst hff hfo
  have hao := hso.ha
  have HL : Hid (∀ k l, x.order[k]? = some l → ∃ ao1 cap1, w.cell? ⟨bo, offo + k, none⟩ = some (.slice ao1 l.length cap1) ∧ IntAt w (.slice ao1 l.length cap1) l ∧ l.length ≤ 4000000) := fun k l hl => by
    obtain ⟨u, q1, q2⟩ := hso.hc k l hl
    obtain ⟨a, c, e⟩ := q2.form
    subst e
    rw [Nat.mul_one] at q1
    exact ⟨a, c, q1, q2, h3 l (List.mem_of_getElem? hl)⟩
  have HW1 : Hid (∀ w', Below w.heap.size w w' → Calls Tryz.prog 116 #[.slice aof x.from'.length capf] w' fun e w'' => ∃ u, e = .returned u ∧ Wid w'.heap.size w'' u x.from' ∧ Below w'.heap.size w' w'') := fun w' hb => wide_any x.from' h1 _ w' (h.f.keep hb)
  obtain ⟨i0, hi, hz0, hz1, hz2⟩ := info_parts Tryz.infoRows0
  have HI : Hid (Tryz.prog.info? 26 = some i0 ∧ i0.zero = some (.slice none 0 0) ∧ i0.size = 1 ∧ i0.bytes = 24) := ⟨hi, hz0, hz1, hz2⟩
  clear hi hz0 hz1 hz2 h hso h3
  go_enter Tryz.func57, Tryz.ntmps57
  go_wp2_with fail
  have hba := below_two w (.cells #[.slice aof x.from'.length capf, .slice aoo x.order.length capo] 29) (.cells #[.slice none 0 0, .slice none 0 0] 29)
  refine (HW1.out _ hba).mono ?_
  rintro e w2 ⟨uf, rfl, huf, hb2⟩
  obtain ⟨gf, capf2, hfv, hfo⟩ := huf
  subst hfv
  have hbw2 := below_more hba hb2
  have hs2 := hb2.size
  rw [World.size_alloc, World.size_alloc] at hs2
  have HX0 : Hid (XSt w (w2.alloc (.cells #[.slice (some ⟨gf, 0, none⟩) x.from'.length capf2, .slice none 0 0] 29)) (.slice aoo x.order.length capo) w2.heap.size x.from' (.slice (some ⟨gf, 0, none⟩) x.from'.length capf2) (.slice none 0 0) [] []) := by
    have hal := below_alloc w2 (.cells #[.slice (some ⟨gf, 0, none⟩) x.from'.length capf2, .slice none 0 0] 29)
    refine ⟨below_more hbw2 hal, keep_cell (below_more hb2 hal) (by simp), ?_, heap_alloc_new _ _, by omega, ⟨gf, capf2, rfl, own_base (own_keep hfo hal) (by simp)⟩, World.ownsRow_nil _ _ _ _, fun j l hl => by simp at hl⟩
    rw [(below_more hb2 hal).block _ (by simp)]
    have e : w.heap.size + 1 = (w.alloc (.cells #[.slice aof x.from'.length capf, .slice aoo x.order.length capo] 29)).heap.size := by simp
    rw [e, heap_alloc_new]
  clear hfo hb2 hba HW1
  go_wp2_with fail
  generalize hCe : w2.heap.size = C at *
  clear hCe
  go_loopw [4, 5] (fun i u wr => ∃ (k : Nat) (aoV : Option Addr) (capV : Nat) (us : List Value), k ≤ x.order.length ∧ i = .int .i64 k ∧ Hid (XSt w wr (.slice aoo x.order.length capo) C x.from' (.slice (some ⟨gf, 0, none⟩) x.from'.length capf2) (.slice aoV k capV) (x.order.take k) us)) (fun i _ _ => x.order.length - (intOf i).toNat)
  case atStart => exact ⟨0, none, 0, [], Nat.zero_le _, rfl, HX0.out⟩
  case round =>
    clear HX0
    obtain ⟨k, aoV, capV, us, hk, rfl, hX⟩ := hrel
    have hbw := hX.out.below
    have b1 := hX.out.b1
    have hCw := hX.out.hC
    have hClt := heap_ltA hX.out.c
    have d1 : wr.cell? ⟨C, 1, none⟩ = some (.slice aoV k capV) := by rw [cell_of_row _ _ _ _ _ _ hX.out.c]; rfl
    have HOW : Hid (wr.ownsRow (w.heap.size + 2) 26 1 (.slice aoV k capV) k us) := by have := hX.out.own; rw [List.length_take, Nat.min_eq_left hk] at this; exact this
    by_cases hlt : k < x.order.length
    · obtain ⟨l, hl⟩ := get_of_lt hlt
      obtain rfl := hao (ne_nil hlt)
      obtain ⟨ao1, cap1, q1, q2, q3⟩ := HL.out k l hl
      have c1 := keep_cell hbw q1
      have HWD := hid (wide_any l q3 _ wr (q2.keep hbw))
      have hkI : (k : Int) < (x.order.length : Int) := by omega
      have HTK : Hid (x.order.take (k + 1) = x.order.take k ++ [l]) := by unfold Hid; rw [List.take_add_one, hl]; rfl
      clear q1 q2 hl
      go_wp2_with fail
      refine HWD.out.mono ?_
      rintro e w3 ⟨u, rfl, hu, hb3⟩
      obtain ⟨gu, capu, huv, _⟩ := id hu
      subst huv
      have HU := hid hu
      have hb3' := hid hb3
      replace d1 := keep_cell hb3 d1
      replace b1 := keep_cell hb3 b1
      have hs3 := hb3.size
      have HO3 := hid (own_keep HOW.out hb3)
      clear hu hb3 HWD c1 HOW
      go_wp2_with (at_builtin; refine append_new _ rfl _ _ 27 rfl (w.heap.size + 2) 26 i0 (.slice none 0 0) 1 24 Tryz.underlying27 HI.out.1 HI.out.2.1 HI.out.2.2.1 HI.out.2.2.2 rfl (by decide) (.slice aoV k capV) k us rfl (HO3.out.alloc _) (some ⟨w3.heap.size, 0, none⟩) 1 1 [.slice (some ⟨gu, 0, none⟩) l.length capu] rfl (fun h => by cases h) rfl (fun ad had => by cases had; exact new_one rfl) (by simp [Value.oneCell']) (by unfold maxLen; omega) (by omega) (by simp; omega) ?_)
      intro V8 w8 hown8 hgrow8 hap8
      obtain ⟨ao8, cap8, hf8, _⟩ := own_form hown8
      subst hf8
      obtain ⟨hX8, hC8⟩ := hX.out.step hb3'.out HU.out (by rw [List.length_take, Nat.min_eq_left hk]; exact hown8) hgrow8
      rw [← HTK.out] at hX8
      have HX8 := hid hX8
      have e1 : w8.cell? ⟨C, 1, none⟩ = some (.slice aoV k capV) := by rw [cell_of_row _ _ _ _ _ _ hC8]; rfl
      have e2 : w8.frozen? ⟨C, 1, none⟩ = false := frozen_of_row _ _ _ _ _ hC8
      clear hX8 hC8 hown8 hgrow8 hap8 HO3 HU hb3' hX
      go_wp2_with fail
      go_roundw
      case measure => simp [intOf]; omega
      case rel => exact ⟨k + 1, ao8, cap8, _, by omega, by go_num, HX8.out⟩
    · have hkc : k = x.order.length := by omega
      have hkI : (x.order.length : Int) ≤ (k : Int) := by omega
      have hX1 : XSt w wr (.slice aoo x.order.length capo) C x.from' (.slice (some ⟨gf, 0, none⟩) x.from'.length capf2) (.slice aoV k capV) x.order us := by have := hX.out; rw [hkc, List.take_length] at this; rw [hkc]; exact this
      have HX2 : Hid (XSt w (wr.alloc (.cells #[.int .i64 (-1000)] 3)) (.slice aoo x.order.length capo) C x.from' (.slice (some ⟨gf, 0, none⟩) x.from'.length capf2) (.slice aoV k capV) x.order us) := by
        have hb1 := below_alloc wr (.cells #[.int .i64 (-1000)] 3)
        exact ⟨below_more hbw hb1, keep_cell hb1 b1, (hb1.block _ (heap_ltA hX1.r)).trans hX1.r, (hb1.block _ hClt).trans hX1.c, hX1.hC, hX1.fr.other fun b hb => hb1.block b (hX1.fr.lt hb).2, own_keep hX1.own hb1, fun j l hl => by
          obtain ⟨u, q1, q2⟩ := hX1.rows j l hl
          exact ⟨u, q1, q2.other fun b hb => hb1.block b (q2.lt hb).2⟩⟩
      have HKC := hid hkc
      clear hX hX1 HL hkc
      go_wp2_with (at_builtin; refine append_new _ rfl _ _ 27 rfl (w.heap.size + 2) 26 i0 (.slice none 0 0) 1 24 Tryz.underlying27 HI.out.1 HI.out.2.1 HI.out.2.2.1 HI.out.2.2.2 rfl (by decide) (.slice aoV k capV) k us rfl ((HOW.out.alloc _).alloc _) (some ⟨wr.heap.size + 1, 0, none⟩) 1 1 [.slice (some ⟨wr.heap.size, 0, none⟩) 1 1] rfl (fun h => by cases h) rfl (fun ad had => by cases had; exact new_one (W := wr.alloc (.cells #[.int .i64 (-1000)] 3)) (by simp)) (by simp [Value.oneCell']) (by unfold maxLen; omega) (by omega) (by simp; omega) ?_)
      intro V8 w8 hown8 hgrow8 hap8
      obtain ⟨g8, cap8, hf8, hnc8, hcm8⟩ : ∃ g cap2, V8 = .slice (some ⟨g, 0, none⟩) (k + 1) cap2 ∧ k + 1 ≤ cap2 ∧ cap2 ≤ 9223372036854775807 := by
        rcases hown8.2 with ⟨_, h0⟩ | ⟨g, cap2, _, q, _, _, q1, q2, _⟩
        · omega
        · exact ⟨g, cap2, q, q1, q2⟩
      subst hf8
      obtain ⟨k0, hC8, k2, k3, k4, k5, k6, k7⟩ := HX2.out.put hown8 hgrow8
      have hsz8 : wr.heap.size + 1 + 1 ≤ w8.heap.size := by have := hgrow8.size; simpa using this
      have hlen : us.length = k := by have := HOW.out.1; omega
      have HEW : Hid (ExeW w.heap.size w8.heap.size (w8.setCell ⟨C, 1, none⟩ (.slice (some ⟨g8, 0, none⟩) (k + 1) cap8)) (.slice (some ⟨gf, 0, none⟩) x.from'.length capf2) (.slice (some ⟨g8, 0, none⟩) x.order.length cap8) x us) := by
        refine ⟨?_, ⟨g8, cap8, wr.heap.size, rfl, ?_, ?_, by omega, by omega, ?_⟩, hlen.trans HKC.out, fun j l hl => ?_, fun b hb => ?_⟩
        · obtain ⟨g, c, e, q⟩ := k7
          exact ⟨g, c, e, own_base q (by omega)⟩
        · rw [← HKC.out]; exact own_base k3 (by omega)
        · rw [k0 wr.heap.size (by simp) (by omega) (fun cur q => by rw [heap_alloc_new] at q; cases q), heap_alloc_new]
        · have := (hown8.lt g8 rfl).2; exact this
        · obtain ⟨u, q1, q2⟩ := HX2.out.rows j l hl
          have q3 : Wid w.heap.size (w8.setCell ⟨C, 1, none⟩ (.slice (some ⟨g8, 0, none⟩) (k + 1) cap8)) u l := by
            obtain ⟨g, c, e, q⟩ := q2.other (w' := w8.setCell ⟨C, 1, none⟩ (.slice (some ⟨g8, 0, none⟩) (k + 1) cap8)) fun b hb => by
              obtain ⟨cur, r⟩ := q2.ty hb
              exact k0 b (q2.lt hb).2 (fun e => by rw [e, HX2.out.c] at r; cases r) fun cur' r' => by rw [r] at r'; cases r'
            exact ⟨g, c, e, own_base q (by omega)⟩
          exact ⟨u, q1, q3, fun b hb => by have := (q3.lt hb).2; simpa [World.setCell] using this⟩
        · have := (k7.lt hb).2
          simpa [World.setCell] using this
      have HB8 := hid k4
      have e0 : w8.cell? ⟨C, 0, none⟩ = some (.slice (some ⟨gf, 0, none⟩) x.from'.length capf2) := by rw [cell_of_row _ _ _ _ _ _ hC8]; rfl
      have e1 : w8.cell? ⟨C, 1, none⟩ = some (.slice aoV k capV) := by rw [cell_of_row _ _ _ _ _ _ hC8]; rfl
      have e2 : w8.frozen? ⟨C, 1, none⟩ = false := frozen_of_row _ _ _ _ _ hC8
      have s1 : w8.cell? ⟨w.heap.size, 1, none⟩ = some (.slice aoo x.order.length capo) := cell_heap (Below.heap_setCell _ _ _ _ (by show w.heap.size ≠ C; omega)).symm k5
      have hr8 : w8.heap[w.heap.size + 1]? = some (.cells #[.slice none 0 0, .slice none 0 0] 29 (0, 0)) := (Below.heap_setCell _ _ _ _ (by show w.heap.size + 1 ≠ C; omega)).symm.trans k6
      have r0 : w8.cell? ⟨w.heap.size + 1, 0, none⟩ = some (.slice none 0 0) := by rw [cell_of_row _ _ _ _ _ _ hr8]; rfl
      have r1 : w8.cell? ⟨w.heap.size + 1, 1, none⟩ = some (.slice none 0 0) := by rw [cell_of_row _ _ _ _ _ _ hr8]; rfl
      have r2 : w8.frozen? ⟨w.heap.size + 1, 0, none⟩ = false := frozen_of_row _ _ _ _ _ hr8
      have r3 : w8.frozen? ⟨w.heap.size + 1, 1, none⟩ = false := frozen_of_row _ _ _ _ _ hr8
      have hle : x.order.length ≤ cap8 := by rw [← HKC.out]; omega
      have HEX : Hid (∀ w', w'.heap.size = w8.heap.size → (∀ b, b ≠ C → b ≠ w.heap.size + 1 → w'.heap[b]? = w8.heap[b]?) → ExeW w.heap.size w'.heap.size w' (.slice (some ⟨gf, 0, none⟩) x.from'.length capf2) (.slice (some ⟨g8, 0, none⟩) x.order.length cap8) x us) := fun w' hs hb => by
        rw [hs]
        refine HEW.out.keepT fun b _ _ hne => ?_
        have hbC : b ≠ C := fun e => hne _ (by rw [e]; exact k2)
        rw [hb b hbC (fun e => hne _ (by rw [e]; exact k6)), Below.heap_setCell _ _ _ _ hbC]
      clear k0 hC8 k2 k3 k4 k5 k6 k7 hown8 hgrow8 hap8 HX2 HOW HEW hr8
      have hCne : C ≠ w.heap.size := by omega
      have hCne1 : C ≠ w.heap.size + 1 := by omega
      go_wp2_with fail
      refine bodyPost_ret (v := .agg #[.slice (some ⟨gf, 0, none⟩) x.from'.length capf2, .slice (some ⟨g8, 0, none⟩) x.order.length cap8]) (by simp [results, Tryz.results57, go_sem, *]) rfl ⟨_, _, us, rfl, HEX.out _ (by simp [World.setCell]) (fun b h1 h2 => ?_), ?_⟩
      · rw [Below.heap_setCell _ _ _ _ h2, Below.heap_setCell _ _ _ _ h2, Below.heap_setCell _ _ _ _ h1, Below.heap_setCell _ _ _ _ h1]
      · exact ((HB8.out.setCell (by show w.heap.size ≤ C; omega) _).setCell (by simp) _).setCell (by simp) _

end Go.Proofs.YtomijmikkbhgmaaGreat
