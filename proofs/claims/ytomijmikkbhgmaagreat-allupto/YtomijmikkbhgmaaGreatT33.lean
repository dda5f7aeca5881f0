import Derived.Test.YtomijmikkbhgmaaGreatT25
import Derived.Test.YtomijmikkbhgmaaGreatT32
import Derived.Test.YtomijmikkbhgmaaGreatT31
namespace Go.Proofs.YtomijmikkbhgmaaGreat
open Go.RowKit

/-- Lists of numbers that are still their owner's to mark: no two in one block. -/
structure Pns (w : World) (P : Nat → Prop) (rs : List Value) : Prop where
  own : ∀ (j : Nat) (u : Value), rs[j]? = some u → ∃ B n xs, w.ownsRow B 3 1 u n xs
  pen : ∀ (j : Nat) (u : Value) (b : Nat), rs[j]? = some u → u.ownBlock = some b → P b
  apart : ∀ (i j : Nat) (a z : Value) (b : Nat), i < j → rs[i]? = some a → rs[j]? = some z → a.ownBlock = some b → z.ownBlock ≠ some b
/-- What is left when k of them are marked. -/
def Pk (P : Nat → Prop) (rs : List Value) (k : Nat) : Nat → Prop := fun b => P b ∧ ∀ (j : Nat) (u : Value), j < k → rs[j]? = some u → u.ownBlock ≠ some b

theorem Took.le {b0 : Nat} {w w' : World} {R : Nat} {vts vxs : Value} {N N' : Nat} {P P1 P2 : Nat → Prop} (h : Took b0 w w' R vts vxs N P P1) (hN : N ≤ N') (hP : ∀ b, P2 b → P1 b) : Took b0 w w' R vts vxs N' P P2 := by
  obtain ⟨⟨V, F, MB, q⟩, q2, q3⟩ := h
  exact ⟨⟨V, F, MB, q.le hN hP⟩, q2.less hP, fun b hb => q3 b (hP b hb)⟩
theorem Took.trans {b0 : Nat} {w w1 w2 : World} {R : Nat} {vts vxs : Value} {N N' : Nat} {P P1 P2 : Nat → Prop} (h : Took b0 w w1 R vts vxs N P P1) (k : Took b0 w1 w2 R vts vxs N' P1 P2) : Took b0 w w2 R vts vxs N' P P2 :=
  ⟨k.wm, ⟨h.frm.below.trans k.frm.below, fun b hb => (k.frm.same b hb).trans (h.frm.same b (k.sub b hb))⟩, fun b hb => h.sub b (k.sub b hb)⟩
theorem Took.zero {b0 : Nat} {w : World} {R : Nat} {vts vxs : Value} {N : Nat} {V : Nat → Value} {F : Nat → List Value} {MB P : Nat → Prop} (h : WM b0 w R vts vxs N V F MB P) (rs : List Value) : Took b0 w w R vts vxs (N + 0) P (Pk P rs 0) := ⟨⟨V, F, MB, h.le (Nat.le_refl _) fun _ hb => hb.1⟩, Frm.refl _ _ _, fun _ hb => hb.1⟩
theorem Took.next {b0 : Nat} {w w1 w2 : World} {R : Nat} {vts vxs : Value} {N N' k : Nat} {P : Nat → Prop} {rs : List Value} {u : Value} (h : Took b0 w w1 R vts vxs N P (Pk P rs k)) (hu : rs[k]? = some u) (t : Took b0 w1 w2 R vts vxs N' (Pk P rs k) (fun b => Pk P rs k b ∧ u.ownBlock ≠ some b)) : Took b0 w w2 R vts vxs N' P (Pk P rs (k + 1)) :=
  (h.trans t).le (Nat.le_refl _) fun b hb => ⟨⟨hb.1, fun j v hj hv => hb.2 j v (by omega) hv⟩, hb.2 k u (by omega) hu⟩

theorem Pns.at' {b0 : Nat} {w w1 : World} {R : Nat} {vts vxs : Value} {N k : Nat} {P : Nat → Prop} {rs : List Value} {u : Value} (h : Pns w P rs) (t : Took b0 w w1 R vts vxs N P (Pk P rs k)) (hu : rs[k]? = some u) : ∃ B n xs, w1.ownsRow B 3 1 u n xs ∧ ∀ b, u.ownBlock = some b → Pk P rs k b := by
  obtain ⟨B, n, xs, h1⟩ := h.own k u hu
  have hp : ∀ b, u.ownBlock = some b → Pk P rs k b := fun b hb => ⟨h.pen k u b hu hb, fun j v hj hv e => h.apart j k v u b hj hv hu e hb⟩
  exact ⟨B, n, xs, own_other h1 fun b hb => t.frm.same b (hp b hb), hp⟩
theorem Pns.stay {w : World} {P : Nat → Prop} {rs : List Value} (h : Pns w P rs) {g : Nat} {cur : Array Value} {t : TypeId} (hg : P g) (hh : w.heap[g]? = some (.cells cur t (0, 0))) (ht : 3 ≠ t) (k : Nat) : Pk P rs k g :=
  ⟨hg, fun j u _ hu e => by
    obtain ⟨B, n, xs, h1⟩ := h.own j u hu
    obtain ⟨cur', q⟩ := own_ty h1 e
    rw [hh] at q
    cases q
    exact ht rfl⟩

theorem Tryz.infoRows3 : (Tryz.prog.info? 55).map (fun i => (i.zero, i.size, i.bytes)) = some (some (.slice none 0 0), 1, 24) := by kernel_rfl

/-- What stands at the end of ended. -/
theorem ended_fin {b0 : Nat} {R : Nat} {vts vxs : Value} {N : Nat} {V : Nat → Value} {F : Nat → List Value} {MB P : Nat → Prop} {w : World} (h : WM b0 w R vts vxs N V F MB P) {B : Nat} {l aov : Value} (hV0 : V 3 = aov) (hP : ∀ b, l.ownBlock = some b → P b) (wr w2 : World) (o : Obj) (f v' : Value) (ho : w2.ownsRow b0 55 1 v' ((F 3).length + 1) (F 3 ++ [f])) (hg : (wr.alloc o).grownBy w2 aov.ownBlock) (hap : ∀ g, v'.ownBlock = some g → aov.ownBlock = some g ∨ wr.heap.size + 1 ≤ g) (hf : Wrote 3 B w wr l f (-1000 - ((F 3).length : Int))) : Took b0 w (w2.setCell ⟨R, 5, none⟩ v') R vts vxs (N + 1) P (fun b => P b ∧ l.ownBlock ≠ some b) ∧ w2.cell? ⟨R, 5, none⟩ = some aov ∧ w2.frozen? ⟨R, 5, none⟩ = false := by
  subst hV0
  obtain ⟨k1, k2⟩ := h.wrote (c := 3) (by omega) hf hP ho hg hap
  exact ⟨k1, by rw [cell_of_row _ _ _ _ _ _ k2]; rfl, frozen_of_row _ _ _ _ _ k2⟩

set_option maxRecDepth 20000 in
set_option maxHeartbeats 4000000 in
theorem ended_any (b0 : Nat) (R : Nat) (vts vxs : Value) (N : Nat) (V : Nat → Value) (F : Nat → List Value) (MB P : Nat → Prop) (w : World) (h : WM b0 w R vts vxs N V F MB P) (hN : N ≤ 100000000000) (B : Nat) (l : Value) (KK : List (List Int × Nat)) (hl : OutF B w l KK) (hK : KK.length ≤ 2000) (hP : ∀ b, B ≤ b → b < w.heap.size → P b) :
    Calls Tryz.prog 70 #[.pointer (some ⟨R, 0, none⟩), l] w fun e w' => ∃ r, e = .returned r ∧ Took b0 w w' R vts vxs (N + 2001) P (fun b => P b ∧ b < B) := by
  obtain ⟨i0, hi, hz0, hz1, hz2⟩ := info_parts Tryz.infoRows3
  have HI : Hid (Tryz.prog.info? 55 = some i0 ∧ i0.zero = some (.slice none 0 0) ∧ i0.size = 1 ∧ i0.bytes = 24) := ⟨hi, hz0, hz1, hz2⟩
  clear hi hz0 hz1 hz2
  obtain ⟨K, rfl, ho, hq, hap⟩ := hl
  rw [List.length_map] at hK
  rcases ho.2 with ⟨rfl, hn⟩ | ⟨g, cap, cur, rfl, hBg, hh, hnc, _⟩
  · have h0 : K = [] := List.eq_nil_of_length_eq_zero hn
    subst h0
    have hlen := h.len 3 (by omega)
    obtain ⟨aoV, capV, hV0, _⟩ := own_form (h.own 3 (by omega))
    have HTK := hid (ended_fin h (l := .slice none 0 0) (B := B) hV0 (fun b hb => by simp [Value.ownBlock] at hb))
    have HOW : Hid (w.ownsRow b0 55 1 (.slice aoV (F 3).length capV) (F 3).length (F 3)) := by have := h.own 3 (by omega); rw [hV0] at this; exact this
    have hb0 : b0 ≤ w.heap.size := by have := h.lo; have := heap_ltA h.blk; omega
    obtain ⟨_, _, _, _, _, c2, _⟩ := h.cells
    rw [hV0] at c2
    clear h hP hV0 hq hap ho hn
    go_enter Tryz.func70, Tryz.ntmps70
    go_wp2_with fail
    go_loopw [4] (fun i wr => i = .int .i64 0 ∧ wr = w) (fun _ _ => 0)
    case atStart => exact ⟨rfl, rfl⟩
    case round =>
      obtain ⟨rfl, rfl⟩ := hrel
      go_wp2_with fail
      go_loopw [6] (fun i w2 => i = .int .i64 0 ∧ w2 = wr) (fun _ _ => 0)
      case atStart => exact ⟨rfl, rfl⟩
      case round =>
        obtain ⟨rfl, rfl⟩ := hrel
        go_wp2_with (at_builtin; refine append_new _ rfl _ _ 38 rfl b0 55 i0 (.slice none 0 0) 1 24 Tryz.underlying38 HI.out.1 HI.out.2.1 HI.out.2.2.1 HI.out.2.2.2 rfl (by decide) (.slice aoV (F 3).length capV) (F 3).length (F 3) rfl (HOW.out.alloc _) (some ⟨wr.heap.size, 0, none⟩) 1 1 [.slice none 0 0] rfl (fun h => by cases h) rfl (fun ad had => by cases had; exact new_one rfl) (by simp [Value.oneCell']) (by unfold maxLen; omega) (by omega) (by simp; omega) ?_)
        intro V8 w8 hown8 hgrow8 hap8
        obtain ⟨ao8, cap8, hf8, _⟩ := own_form hown8
        subst hf8
        obtain ⟨hK8, d2, g2⟩ := HTK.out _ _ _ _ _ hown8 hgrow8 hap8 (Wrote.none _ B _ _)
        have HK := hid (hK8.le (N' := N + 2001) (by omega) (P2 := fun b => P b ∧ b < B) fun b hb => ⟨hb.1, by simp [Value.ownBlock]⟩)
        clear hK8 hown8 hgrow8 hap8 HTK
        go_wp2_with fail
        exact bodyPost_end (v := .tuple #[]) (results_none rfl _ _ _) rfl ⟨_, rfl, HK.out⟩
  · have hgl := heap_ltA hh
    have hgP := hP g hBg hgl
    have HRS : Hid (Pns w P (K.map (·.1))) := by
      have key : ∀ (j : Nat) (u : Value), (K.map (·.1))[j]? = some u → ∃ q, K[j]? = some q ∧ q.1 = u := fun j u hu => by
        rw [List.getElem?_map] at hu
        cases hj : K[j]? with
        | none => rw [hj] at hu; simp at hu
        | some q => rw [hj] at hu; exact ⟨q, rfl, by simpa using hu⟩
      refine ⟨fun j u hu => ?_, fun j u b hu hb => ?_, fun i j a z b hij ha hz hb => ?_⟩
      · obtain ⟨q, h1, h2⟩ := key j u hu
        exact ⟨B, _, _, by rw [← h2]; exact hq q (List.mem_of_getElem? h1)⟩
      · obtain ⟨q, h1, h2⟩ := key j u hu
        have h3 := World.ownsRow.lt (hq q (List.mem_of_getElem? h1)) b (by rw [h2]; exact hb)
        exact hP b h3.1 h3.2
      · obtain ⟨q, h1, h2⟩ := key i a ha
        obtain ⟨r, h3, h4⟩ := key j z hz
        rw [← h4]
        exact hap i j q r b hij h1 h3 (by rw [h2]; exact hb)
    have HST : Hid (∀ k, Pk P (K.map (·.1)) k g) := fun k => HRS.out.stay hgP hh (by decide) k
    have HC : Hid (∀ (k : Nat) (q : Value × (List Int × Nat)), K[k]? = some q → w.cell? ⟨g, k * 2, none⟩ = some q.1 ∧ (K.map (·.1))[k]? = some q.1) := fun k q hk => by
      have hkl := (List.getElem?_eq_some_iff.1 hk).1
      refine ⟨?_, by rw [List.getElem?_map, hk]; rfl⟩
      rw [ho.cellAt (k * 2) (by omega), ← Nat.add_zero (k * 2), flat_get outV 2 outV_len K k 0 q hk (by omega)]
      rfl
    have HT0 : Hid (Took b0 w w R vts vxs (N + 0) P (Pk P (K.map (·.1)) 0)) := Took.zero h _
    have HOU : Hid (w.ownsRow B 77 2 (.slice (some ⟨g, 0, none⟩) K.length cap) K.length (K.flatMap outV)) := ho
    have HFN : Hid (∀ b, P b ∧ b < B → Pk P (K.map (·.1)) K.length b ∧ (Value.slice (some ⟨g, 0, none⟩) K.length cap).ownBlock ≠ some b) := fun b hb => by
      refine ⟨⟨hb.1, fun j u _ hu e => ?_⟩, fun e => ?_⟩
      · rw [List.getElem?_map] at hu
        cases hj : K[j]? with
        | none => rw [hj] at hu; simp at hu
        | some q =>
          rw [hj] at hu
          have hqu : q.1 = u := by simpa using hu
          have h3 := World.ownsRow.lt (hq q (List.mem_of_getElem? hj)) b (by rw [hqu]; exact e)
          omega
      · have e : g = b := by simpa [Value.ownBlock] using e
        omega
    generalize K.map (·.1) = rs at *
    clear h hP hq hap hh ho
    go_enter Tryz.func70, Tryz.ntmps70
    go_wp2_with fail
    go_loopw [4] (fun i wr => ∃ k : Nat, k ≤ K.length ∧ i = .int .i64 k ∧ Hid (Took b0 w wr R vts vxs (N + k) P (Pk P rs k))) (fun i _ => K.length - (intOf i).toNat)
    case atStart => exact ⟨0, Nat.zero_le _, rfl, HT0.out⟩
    case round =>
      clear HT0
      obtain ⟨k, hk, rfl, ht⟩ := hrel
      by_cases hlt : k < K.length
      · obtain ⟨q, hq⟩ := get_of_lt hlt
        obtain ⟨c0, hr0⟩ := HC.out k q hq
        obtain ⟨B1, n1, xs1, hown1, hpk⟩ := HRS.out.at' ht.out hr0
        obtain ⟨ao1, cap1, hf1, _⟩ := own_form hown1
        have d0 : wr.cell? ⟨g, k * 2, none⟩ = some q.1 := cell_heap (ht.out.frm.same g (HST.out k)) c0
        rw [hf1] at d0 hown1 hpk hr0
        obtain ⟨V1, F1, MB1, hW1⟩ := ht.out.wm
        have HM := hid (mine_any b0 R vts vxs (N + k) V1 F1 MB1 _ wr hW1 (by omega) B1 _ n1 xs1 hown1 hpk)
        have HNX : Hid (∀ w', Took b0 wr w' R vts vxs (N + k + 1) (Pk P rs k) (fun b => Pk P rs k b ∧ (Value.slice ao1 n1 cap1).ownBlock ≠ some b) → Took b0 w w' R vts vxs (N + (k + 1)) P (Pk P rs (k + 1))) := fun w' t => (ht.out.next hr0 t).le (by omega) fun _ q => q
        have hkI : (k : Int) < (K.length : Int) := by omega
        clear hW1 hown1 hpk hr0 c0 hq hf1 ht
        go_wp2_with fail
        refine HM.out.mono ?_
        rintro e w3 ⟨r, rfl, ht3⟩
        have HT3 := hid (HNX.out w3 ht3)
        clear HM HNX ht3 d0
        go_wp2_with fail
        go_roundw
        case measure => simp [intOf]; omega
        case rel => exact ⟨k + 1, by omega, by go_num, HT3.out⟩
      · have hkc : k = K.length := by omega
        subst hkc
        obtain ⟨w1, hw1⟩ : ∃ x, x = wr := ⟨_, rfl⟩
        subst hw1
        obtain ⟨V1, F1, MB1, hW1⟩ := ht.out.wm
        have hsame := ht.out.frm.same g (HST.out K.length)
        have hou := own_other (w' := w1) HOU.out fun b hb => by
          have e : g = b := by simpa [Value.ownBlock] using hb
          rw [← e]; exact hsame
        obtain ⟨ys, hys, hcm⟩ := own_full hou
        have hlen := hW1.len 3 (by omega)
        obtain ⟨aoV, capV, hV0, _⟩ := own_form (hW1.own 3 (by omega))
        have hpe : ∀ b, (Value.slice (some ⟨g, 0, none⟩) K.length cap).ownBlock = some b → Pk P rs K.length b := fun b hb => by
          have e : g = b := by simpa [Value.ownBlock] using hb
          rw [← e]; exact HST.out _
        have HTK := hid (ended_fin hW1 (l := .slice (some ⟨g, 0, none⟩) K.length cap) (B := B) hV0 hpe)
        obtain ⟨_, hgl2, _, hgR, hgV⟩ := hW1.pend g (HST.out _)
        have HG : Hid (∀ w2, Only g w1 w2 → w2.ownsRow b0 55 1 (.slice aoV (F1 3).length capV) (F1 3).length (F1 3) ∧ b0 ≤ w2.heap.size) := fun w2 hO => by
          have := hW1.own 3 (by omega)
          rw [hV0] at this
          exact ⟨own_only this hO (fun b hb e => hgV 3 (by omega) (by rw [hV0, ← e]; exact hb)), by have := hW1.lo; have := heap_ltA hW1.blk; have := hO.size; omega⟩
        have HY : Hid (Fil 3 B w1 w1 g cap 0 (-1000 - ((F1 3).length : Int))) := Fil.zero hys _
        have hL0 : ((F1 3).length : Int) ≤ 1000000000000 := by omega
        have HT1 : Hid (∀ w', Took b0 w1 w' R vts vxs (N + K.length + 1) (Pk P rs K.length) (fun b => Pk P rs K.length b ∧ (Value.slice (some ⟨g, 0, none⟩) K.length cap).ownBlock ≠ some b) → Took b0 w w' R vts vxs (N + 2001) P (fun b => P b ∧ b < B)) := fun w' t => (ht.out.trans t).le (by omega) HFN.out
        obtain ⟨_, _, _, _, _, c2, _⟩ := hW1.cells
        rw [hV0] at c2
        clear hW1 hou hys hsame ht HOU hpe hgV hV0 HRS HST HC HFN
        go_wp2_with fail
        go_loopw [6] (fun i w2 => ∃ k : Nat, k ≤ cap ∧ i = .int .i64 k ∧ Hid (Fil 3 B w1 w2 g cap k (-1000 - ((F1 3).length : Int)))) (fun i _ => cap - (intOf i).toNat)
        case atStart => exact ⟨0, Nat.zero_le _, rfl, HY.out⟩
        case round =>
          clear HY
          obtain ⟨k, hk, rfl, hf⟩ := hrel
          have e2 := hf.out.only.cell c2 (fun e => hgR e.symm)
          by_cases hlt : k < cap
          · obtain ⟨⟨z0, hc0⟩, hf0⟩ := hf.out.next hlt 0 (by decide)
            obtain ⟨⟨z1, hc1⟩, hf1⟩ := hf.out.next hlt 1 (by decide)
            simp only [show szW 3 = 2 from rfl, Nat.add_zero] at hc0 hf0 hc1 hf1
            have HN1 := hid (hf.out.put3 hlt)
            have hkI : (k : Int) < (cap : Int) := by omega
            clear hf
            go_wp2_with fail
            go_roundw
            case measure => simp [intOf]; omega
            case rel => exact ⟨k + 1, by omega, by go_num, HN1.out⟩
          · have hkc : k = cap := by omega
            subst hkc
            obtain ⟨hOr, hb0⟩ := HG.out wr hf.out.only
            have HOr := hid hOr
            clear hOr
            go_wp2_with (at_builtin; refine append_new _ rfl _ _ 38 rfl b0 55 i0 (.slice none 0 0) 1 24 Tryz.underlying38 HI.out.1 HI.out.2.1 HI.out.2.2.1 HI.out.2.2.2 rfl (by decide) (.slice aoV (F1 3).length capV) (F1 3).length (F1 3) rfl (HOr.out.alloc _) (some ⟨wr.heap.size, 0, none⟩) 1 1 [.slice (some ⟨g, 0, none⟩) k k] rfl (fun h => by cases h) rfl (fun ad had => by cases had; exact new_one rfl) (by simp [Value.oneCell']) (by unfold maxLen; omega) (by omega) (by simp; omega) ?_)
            intro V8 w8 hown8 hgrow8 hap8
            obtain ⟨ao8, cap8, hf8, _⟩ := own_form hown8
            subst hf8
            obtain ⟨hK8, d2, g2⟩ := HTK.out _ _ _ _ _ hown8 hgrow8 hap8 (Wrote.some hf.out _)
            have HK := hid (HT1.out _ hK8)
            clear hK8 hown8 hgrow8 hap8 HTK hf HOr
            go_wp2_with fail
            exact bodyPost_end (v := .tuple #[]) (results_none rfl _ _ _) rfl ⟨_, rfl, HK.out⟩

end Go.Proofs.YtomijmikkbhgmaaGreat

namespace Go.Proofs.YtomijmikkbhgmaaGreat
open Go.RowKit

theorem Tryz.infoRows1 : (Tryz.prog.info? 27).map (fun i => (i.zero, i.size, i.bytes)) = some (some (.slice none 0 0), 1, 24) := by kernel_rfl

/-- What stands at the end of shown. -/
theorem shown_fin {b0 : Nat} {R : Nat} {vts vxs : Value} {N : Nat} {V : Nat → Value} {F : Nat → List Value} {MB P : Nat → Prop} {w : World} (h : WM b0 w R vts vxs N V F MB P) {B : Nat} {l aov : Value} (hV0 : V 1 = aov) (hP : ∀ b, l.ownBlock = some b → P b) (wr w2 : World) (o : Obj) (f v' : Value) (ho : w2.ownsRow b0 27 1 v' ((F 1).length + 1) (F 1 ++ [f])) (hg : (wr.alloc o).grownBy w2 aov.ownBlock) (hap : ∀ g, v'.ownBlock = some g → aov.ownBlock = some g ∨ wr.heap.size + 1 ≤ g) (hf : Wrote 1 B w wr l f (-1000 - ((F 1).length : Int))) : Took b0 w (w2.setCell ⟨R, 3, none⟩ v') R vts vxs (N + 1) P (fun b => P b ∧ l.ownBlock ≠ some b) ∧ w2.cell? ⟨R, 3, none⟩ = some aov ∧ w2.frozen? ⟨R, 3, none⟩ = false := by
  subst hV0
  obtain ⟨k1, k2⟩ := h.wrote (c := 1) (by omega) hf hP ho hg hap
  exact ⟨k1, by rw [cell_of_row _ _ _ _ _ _ k2]; rfl, frozen_of_row _ _ _ _ _ k2⟩

theorem exe_pns {B : Nat} {w w0 : World} {P : Nat → Prop} {vf vo : Value} {x : Exe} {vs : List Value} (hf : IntF B w vf x.from') (ho : LF B w vo x.order vs) (ha : ∀ (j : Nat) (u : Value) (b : Nat), vs[j]? = some u → vf.ownBlock = some b → u.ownBlock ≠ some b) (hb : Below w.heap.size w w0) (hP : ∀ b, B ≤ b → b < w.heap.size → P b) : Pns w0 P (vf :: vs) := by
  have key : ∀ (j : Nat) (u : Value), (vf :: vs)[j]? = some u → ∃ y, IntF B w u y := fun j u hu => by
    cases j with
    | zero => simp at hu; rw [← hu]; exact ⟨_, hf⟩
    | succ j => obtain ⟨y, _, q⟩ := ho.row (j := j) (u := u) (by simpa using hu); exact ⟨y, q⟩
  refine ⟨fun j u hu => ?_, fun j u b hu hub => ?_, fun i j a z b hij ha' hz hb' => ?_⟩
  · obtain ⟨y, q⟩ := key j u hu
    exact ⟨B, _, _, own_keep q hb⟩
  · obtain ⟨y, q⟩ := key j u hu
    have := World.ownsRow.lt q b hub
    exact hP b this.1 this.2
  · cases j with
    | zero => omega
    | succ j =>
      cases i with
      | zero => simp at ha'; rw [← ha'] at hb'; exact ha j z b (by simpa using hz) hb'
      | succ i => exact ho.apart i j a z b (by omega) (by simpa using ha') (by simpa using hz) hb'

set_option maxRecDepth 20000 in
set_option maxHeartbeats 4000000 in
theorem shown_any (b0 : Nat) (R : Nat) (vts vxs : Value) (N : Nat) (V : Nat → Value) (F : Nat → List Value) (MB P : Nat → Prop) (w : World) (h : WM b0 w R vts vxs N V F MB P) (hN : N ≤ 100000000000) (B : Nat) (vf vo : Value) (x : Exe) (hx : ExeF B w vf vo x) (hK : x.order.length ≤ 1000) (hBs : B ≤ w.heap.size) (hP : ∀ b, B ≤ b → b < w.heap.size → P b) :
    Calls Tryz.prog 69 #[.pointer (some ⟨R, 0, none⟩), .agg #[vf, vo]] w fun e w' => ∃ r, e = .returned r ∧ Took b0 w w' R vts vxs (N + 2001) P (fun b => P b ∧ b < B) := by
  obtain ⟨i0, hi, hz0, hz1, hz2⟩ := info_parts Tryz.infoRows1
  have HI : Hid (Tryz.prog.info? 27 = some i0 ∧ i0.zero = some (.slice none 0 0) ∧ i0.size = 1 ∧ i0.bytes = 24) := ⟨hi, hz0, hz1, hz2⟩
  clear hi hz0 hz1 hz2
  obtain ⟨hxf, vs, ho, ha⟩ := hx
  obtain ⟨aof, capf, hff, _⟩ := own_form hxf
  obtain ⟨aoo, capo, hfo, _⟩ := own_form ho.own
  have hba := below_alloc w (.cells #[vf, vo] 29)
  have hW0 := h.more hba
  have hP0 : ∀ b, B ≤ b → b < w.heap.size → (P b ∨ (w.heap.size ≤ b ∧ b < (w.alloc (.cells #[vf, vo] 29)).heap.size)) := fun b h1 h2 => .inl (hP b h1 h2)
  have HRS := hid (exe_pns hxf ho ha hba hP0)
  have HT0 := hid (Took.zero hW0 (vf :: vs))
  have hS : w.heap.size < (w.alloc (.cells #[vf, vo] 29)).heap.size := by simp
  have HSS : Hid (∀ k, Pk (fun b => P b ∨ (w.heap.size ≤ b ∧ b < (w.alloc (.cells #[vf, vo] 29)).heap.size)) (vf :: vs) k w.heap.size) := fun k => HRS.out.stay (.inr ⟨Nat.le_refl _, hS⟩) (heap_alloc_new _ _) (by decide) k
  have HFN : Hid (∀ (w' : World) (N' k : Nat) (u : Value), (∀ b, u.ownBlock = some b → B ≤ b) → Took b0 (w.alloc (.cells #[vf, vo] 29)) w' R vts vxs N' (fun b => P b ∨ (w.heap.size ≤ b ∧ b < (w.alloc (.cells #[vf, vo] 29)).heap.size)) (fun b => Pk (fun b => P b ∨ (w.heap.size ≤ b ∧ b < (w.alloc (.cells #[vf, vo] 29)).heap.size)) (vf :: vs) k b ∧ u.ownBlock ≠ some b) → N' ≤ N + 2001 → Took b0 w w' R vts vxs (N + 2001) P (fun b => P b ∧ b < B)) := fun w' N' k u hu t hN' => by
    have hsub : ∀ b, P b ∧ b < B → Pk (fun b => P b ∨ (w.heap.size ≤ b ∧ b < (w.alloc (.cells #[vf, vo] 29)).heap.size)) (vf :: vs) k b ∧ u.ownBlock ≠ some b := fun b hb => by
      refine ⟨⟨.inl hb.1, fun j v _ hv e => ?_⟩, fun e => by have := hu b e; omega⟩
      cases j with
      | zero => simp at hv; rw [← hv] at e; have := (World.ownsRow.lt hxf b e).1; omega
      | succ j =>
        obtain ⟨y, _, q⟩ := ho.row (j := j) (u := v) (by simpa using hv)
        have := (World.ownsRow.lt q b e).1
        omega
    have t2 := t.le hN' hsub
    exact ⟨t2.wm, ⟨(hba.mono (by have := h.lo; have := heap_ltA h.blk; omega)).trans t2.frm.below, fun b hb => (t2.frm.same b hb).trans (hba.block b (by omega))⟩, fun b hb => hb.1⟩
  have HS0 : Hid ((w.alloc (.cells #[vf, vo] 29)).cell? ⟨w.heap.size, 0, none⟩ = some vf ∧ (w.alloc (.cells #[vf, vo] 29)).cell? ⟨w.heap.size, 1, none⟩ = some vo) := ⟨by simp, by simp⟩
  have HOO : Hid ((w.alloc (.cells #[vf, vo] 29)).ownsRow B 26 1 vo x.order.length vs) := own_keep ho.own hba
  have HOP : Hid (∀ g, vo.ownBlock = some g → B ≤ g ∧ ∀ k, Pk (fun b => P b ∨ (w.heap.size ≤ b ∧ b < (w.alloc (.cells #[vf, vo] 29)).heap.size)) (vf :: vs) k g) := fun g hg => by
    obtain ⟨cur, q⟩ := own_ty HOO.out hg
    have := ho.own.lt g hg
    exact ⟨this.1, fun k => HRS.out.stay (hP0 g this.1 this.2) q (by decide) k⟩
  have HM0 : Hid (∃ n1 xs1, (w.alloc (.cells #[vf, vo] 29)).ownsRow B 3 1 vf n1 xs1) := ⟨_, _, own_keep hxf hba⟩
  clear hxf ho ha hW0 hP0 hP h
  generalize hPP : (fun b => P b ∨ (w.heap.size ≤ b ∧ b < (w.alloc (.cells #[vf, vo] 29)).heap.size)) = P0 at *
  clear hPP
  subst hff hfo
  go_enter Tryz.func69, Tryz.ntmps69
  go_wp2_with fail
  generalize w.alloc (.cells #[.slice aof x.from'.length capf, .slice aoo x.order.length capo] 29) = w0 at *
  generalize w.heap.size = S at *
  obtain ⟨n1, xs1, hM0⟩ := HM0.out
  obtain ⟨V2, F2, MB2, hW2⟩ := HT0.out.wm
  obtain ⟨_, _, _, _, hpk⟩ := HRS.out.at' HT0.out (k := 0) (u := .slice aof x.from'.length capf) rfl
  refine (mine_any b0 R vts vxs _ V2 F2 MB2 _ w0 hW2 (by omega) B _ n1 xs1 hM0 hpk).mono ?_
  rintro e w2 ⟨r, rfl, ht2⟩
  have HT1 : Hid (Took b0 w0 w2 R vts vxs (N + 0 + 1) P0 (Pk P0 (.slice aof x.from'.length capf :: vs) (0 + 1))) := HT0.out.next rfl ht2
  clear ht2 hW2 hM0 hpk HM0 HT0
  have HLS : Hid (∀ (w1 : World) (N' k : Nat), Took b0 w0 w1 R vts vxs N' P0 (Pk P0 (.slice aof x.from'.length capf :: vs) k) → w1.cell? ⟨S, 1, none⟩ = some (.slice aoo x.order.length capo) ∧ w1.ownsRow B 26 1 (.slice aoo x.order.length capo) x.order.length vs) := fun w1 N' k t => ⟨cell_heap (t.frm.same S (HSS.out k)) HS0.out.2, own_other HOO.out fun b hb => t.frm.same b ((HOP.out b hb).2 k)⟩
  have hvl : vs.length = x.order.length * 1 := HOO.out.1
  clear HS0 HOO HSS
  have hc2 := (HLS.out w2 _ _ HT1.out).1
  go_wp2_with fail
  clear hc2
  go_loopw [4] (fun i wr => ∃ k : Nat, k ≤ x.order.length ∧ i = .int .i64 k ∧ Hid (Took b0 w0 wr R vts vxs (N + 1 + k) P0 (Pk P0 (.slice aof x.from'.length capf :: vs) (k + 1)))) (fun i _ => x.order.length - (intOf i).toNat)
  case atStart => exact ⟨0, Nat.zero_le _, rfl, HT1.out⟩
  case round =>
    clear HT1
    obtain ⟨k, hk, rfl, ht⟩ := hrel
    obtain ⟨hcS, hoo⟩ := HLS.out wr _ _ ht.out
    by_cases hlt : k < x.order.length
    · obtain ⟨u, hu⟩ := get_of_lt (l := vs) (k := k) (by omega)
      obtain ⟨B1, n1, xs1, hown1, hpk⟩ := HRS.out.at' ht.out (k := k + 1) (u := u) (by simpa using hu)
      obtain ⟨ao1, cap1, hf1, _⟩ := own_form hown1
      subst hf1
      obtain ⟨g, capg, hgo⟩ : ∃ g capg, Value.slice aoo x.order.length capo = .slice (some ⟨g, 0, none⟩) x.order.length capg := by
        rcases hoo.2 with ⟨_, h0⟩ | ⟨g, cap, _, hv, _⟩
        · omega
        · exact ⟨g, cap, hv⟩
      simp only [Value.slice.injEq, true_and] at hgo
      obtain ⟨hgo1, hgo2⟩ := hgo
      subst hgo1 hgo2
      have d0 : wr.cell? ⟨g, k, none⟩ = some (.slice ao1 n1 cap1) := by rw [hoo.cellAt k (by omega)]; exact hu
      obtain ⟨V1, F1, MB1, hW1⟩ := ht.out.wm
      have HM := hid (mine_any b0 R vts vxs _ V1 F1 MB1 _ wr hW1 (by omega) B1 _ n1 xs1 hown1 hpk)
      have HNX : Hid (∀ w', Took b0 wr w' R vts vxs (N + 1 + k + 1) (Pk P0 (.slice aof x.from'.length capf :: vs) (k + 1)) (fun b => Pk P0 (.slice aof x.from'.length capf :: vs) (k + 1) b ∧ (Value.slice ao1 n1 cap1).ownBlock ≠ some b) → Took b0 w0 w' R vts vxs (N + 1 + (k + 1)) P0 (Pk P0 (.slice aof x.from'.length capf :: vs) (k + 1 + 1))) := fun w' t => (ht.out.next (by simpa using hu) t).le (by omega) fun _ q => q
      have hkI : (k : Int) < (x.order.length : Int) := by omega
      clear hW1 hown1 hpk hu ht hoo
      go_wp2_with fail
      refine HM.out.mono ?_
      rintro e w3 ⟨r, rfl, ht3⟩
      have HT3 := hid (HNX.out w3 ht3)
      clear HM HNX ht3 d0 hcS
      go_wp2_with fail
      go_roundw
      case measure => simp [intOf]; omega
      case rel => exact ⟨k + 1, by omega, by go_num, HT3.out⟩
    · have hkc : k = x.order.length := by omega
      obtain ⟨w1, hw1⟩ : ∃ x, x = wr := ⟨_, rfl⟩
      subst hw1
      obtain ⟨V1, F1, MB1, hW1⟩ := ht.out.wm
      have hlen := hW1.len 1 (by omega)
      have hL0 : ((F1 1).length : Int) ≤ 1000000000000 := by omega
      obtain ⟨aoV, capV, hV0, _⟩ := own_form (hW1.own 1 (by omega))
      have hpe : ∀ b, (Value.slice aoo x.order.length capo).ownBlock = some b → Pk P0 (.slice aof x.from'.length capf :: vs) (k + 1) b := fun b hb => (HOP.out b hb).2 _
      have HTK := hid (shown_fin hW1 (l := .slice aoo x.order.length capo) (B := B) hV0 hpe)
      have HT1 : Hid (∀ w', Took b0 w1 w' R vts vxs (N + 1 + k + 1) (Pk P0 (.slice aof x.from'.length capf :: vs) (k + 1)) (fun b => Pk P0 (.slice aof x.from'.length capf :: vs) (k + 1) b ∧ (Value.slice aoo x.order.length capo).ownBlock ≠ some b) → Took b0 w w' R vts vxs (N + 2001) P (fun b => P b ∧ b < B)) := fun w' t => HFN.out w' _ _ _ (fun b hb => (HOP.out b hb).1) (ht.out.trans t) (by omega)
      obtain ⟨_, _, _, c2, _⟩ := hW1.cells
      rw [hV0] at c2
      have hkI : (x.order.length : Int) ≤ (k : Int) := by omega
      rcases hoo.2 with ⟨hv, h0⟩ | ⟨g, cap, cur, hv, _, _, hnc, _⟩
      · simp only [Value.slice.injEq] at hv
        obtain ⟨hv1, hv2, hv3⟩ := hv
        subst hv1 hv3
        have HOW : Hid (w1.ownsRow b0 27 1 (.slice aoV (F1 1).length capV) (F1 1).length (F1 1)) := by have := hW1.own 1 (by omega); rw [hV0] at this; exact this
        have hb0 : b0 ≤ w1.heap.size := by have := hW1.lo; have := heap_ltA hW1.blk; omega
        clear hW1 ht hoo hpe hV0 HRS HOP HFN HLS hkc h0
        rw [hv2] at *
        go_wp2_with fail
        go_loopw [6] (fun i w2 => i = .int .i64 0 ∧ w2 = w1) (fun _ _ => 0)
        case atStart => exact ⟨rfl, rfl⟩
        case round =>
          obtain ⟨rfl, rfl⟩ := hrel
          go_wp2_with (at_builtin; refine append_new _ rfl _ _ 36 rfl b0 27 i0 (.slice none 0 0) 1 24 Tryz.underlying36 HI.out.1 HI.out.2.1 HI.out.2.2.1 HI.out.2.2.2 rfl (by decide) (.slice aoV (F1 1).length capV) (F1 1).length (F1 1) rfl (HOW.out.alloc _) (some ⟨wr.heap.size, 0, none⟩) 1 1 [.slice none 0 0] rfl (fun h => by cases h) rfl (fun ad had => by cases had; exact new_one rfl) (by simp [Value.oneCell']) (by unfold maxLen; omega) (by omega) (by simp; omega) ?_)
          intro V8 w8 hown8 hgrow8 hap8
          obtain ⟨ao8, cap8, hf8, _⟩ := own_form hown8
          subst hf8
          obtain ⟨hK8, d2, g2⟩ := HTK.out _ _ _ _ _ hown8 hgrow8 hap8 (Wrote.none _ B _ _)
          have HK := hid (HT1.out _ hK8)
          clear hK8 hown8 hgrow8 hap8 HTK
          go_wp2_with fail
          exact bodyPost_end (v := .tuple #[]) (results_none rfl _ _ _) rfl ⟨_, rfl, HK.out⟩
      · simp only [Value.slice.injEq, true_and] at hv
        obtain ⟨hv1, hv2⟩ := hv
        subst hv1 hv2
        obtain ⟨ys, hys, hcm⟩ := own_full hoo
        obtain ⟨_, hgl2, _, hgR, hgV⟩ := hW1.pend g (hpe g rfl)
        have HG : Hid (∀ w2, Only g w1 w2 → w2.ownsRow b0 27 1 (.slice aoV (F1 1).length capV) (F1 1).length (F1 1) ∧ b0 ≤ w2.heap.size) := fun w2 hO => by
          have := hW1.own 1 (by omega)
          rw [hV0] at this
          exact ⟨own_only this hO (fun b hb e => hgV 1 (by omega) (by rw [hV0, ← e]; exact hb)), by have := hW1.lo; have := heap_ltA hW1.blk; have := hO.size; omega⟩
        have HY : Hid (Fil 1 B w1 w1 g capo 0 (-1000 - ((F1 1).length : Int))) := Fil.zero hys _
        clear hW1 hoo hys ht hpe hgV hV0 HRS HOP HFN HLS hkc
        go_wp2_with fail
        go_loopw [6] (fun i w2 => ∃ k : Nat, k ≤ capo ∧ i = .int .i64 k ∧ Hid (Fil 1 B w1 w2 g capo k (-1000 - ((F1 1).length : Int)))) (fun i _ => capo - (intOf i).toNat)
        case atStart => exact ⟨0, Nat.zero_le _, rfl, HY.out⟩
        case round =>
          clear HY
          obtain ⟨k, hk, rfl, hf⟩ := hrel
          have e2 := hf.out.only.cell c2 (fun e => hgR e.symm)
          by_cases hlt : k < capo
          · obtain ⟨⟨z0, hc0⟩, hf0⟩ := hf.out.next hlt 0 (by decide)
            simp only [show szW 1 = 1 from rfl, Nat.add_zero, Nat.mul_one] at hc0 hf0
            have HN1 := hid (hf.out.put1 hlt hgl2)
            rw [World.setCell_alloc_past _ _ _ _ (by have := hf.out.only.size; omega)] at HN1
            have hkI : (k : Int) < (capo : Int) := by omega
            have hgs : g < wr.heap.size := by have := hf.out.only.size; omega
            clear hf
            go_wp2_with fail
            go_roundw
            case measure => simp [intOf]; omega
            case rel => exact ⟨k + 1, by omega, by go_num, HN1.out⟩
          · have hkc : k = capo := by omega
            subst hkc
            obtain ⟨hOr, hb0⟩ := HG.out wr hf.out.only
            have HOr := hid hOr
            clear hOr
            go_wp2_with (at_builtin; refine append_new _ rfl _ _ 36 rfl b0 27 i0 (.slice none 0 0) 1 24 Tryz.underlying36 HI.out.1 HI.out.2.1 HI.out.2.2.1 HI.out.2.2.2 rfl (by decide) (.slice aoV (F1 1).length capV) (F1 1).length (F1 1) rfl (HOr.out.alloc _) (some ⟨wr.heap.size, 0, none⟩) 1 1 [.slice (some ⟨g, 0, none⟩) k k] rfl (fun h => by cases h) rfl (fun ad had => by cases had; exact new_one rfl) (by simp [Value.oneCell']) (by unfold maxLen; omega) (by omega) (by simp; omega) ?_)
            intro V8 w8 hown8 hgrow8 hap8
            obtain ⟨ao8, cap8, hf8, _⟩ := own_form hown8
            subst hf8
            obtain ⟨hK8, d2, g2⟩ := HTK.out _ _ _ _ _ hown8 hgrow8 hap8 (Wrote.some hf.out _)
            have HK := hid (HT1.out _ hK8)
            clear hK8 hown8 hgrow8 hap8 HTK hf HOr
            go_wp2_with fail
            exact bodyPost_end (v := .tuple #[]) (results_none rfl _ _ _) rfl ⟨_, rfl, HK.out⟩

end Go.Proofs.YtomijmikkbhgmaaGreat

namespace Go.Proofs.YtomijmikkbhgmaaGreat
open Go.RowKit

theorem Tryz.infoRows2 : (Tryz.prog.info? 73).map (fun i => (i.zero, i.size, i.bytes)) = some (some (.slice none 0 0), 1, 24) := by kernel_rfl

set_option maxRecDepth 20000 in
set_option maxHeartbeats 2000000 in
theorem listed_any (b0 : Nat) (R : Nat) (vts vxs : Value) (N : Nat) (V : Nat → Value) (F : Nat → List Value) (MB P : Nat → Prop) (w : World) (h : WM b0 w R vts vxs N V F MB P) (hN : N ≤ 1000000000000) (B : Nat) (l : Value) (n : Nat) (xs : List Value) (hl : w.ownsRow B 75 4 l n xs) (hP : ∀ b, l.ownBlock = some b → P b) :
    Calls Tryz.prog 64 #[.pointer (some ⟨R, 0, none⟩), l] w fun e w' => ∃ r, e = .returned r ∧ Took b0 w w' R vts vxs (N + 1) P (fun b => P b ∧ l.ownBlock ≠ some b) := by
  obtain ⟨i0, hi, hz0, hz1, hz2⟩ := info_parts Tryz.infoRows2
  have HI : Hid (Tryz.prog.info? 73 = some i0 ∧ i0.zero = some (.slice none 0 0) ∧ i0.size = 1 ∧ i0.bytes = 24) := ⟨hi, hz0, hz1, hz2⟩
  clear hi hz0 hz1 hz2
  have hlen := h.len 2 (by omega)
  obtain ⟨aoV, capV, hV0, _⟩ := own_form (h.own 2 (by omega))
  have HTK : Hid (∀ (wr w2 : World) (o : Obj) (f v' : Value), w2.ownsRow b0 73 1 v' ((F 2).length + 1) (F 2 ++ [f]) → (wr.alloc o).grownBy w2 (Value.slice aoV (F 2).length capV).ownBlock → (∀ g, v'.ownBlock = some g → (Value.slice aoV (F 2).length capV).ownBlock = some g ∨ wr.heap.size + 1 ≤ g) → Wrote 2 B w wr l f (-1000 - ((F 2).length : Int)) → Took b0 w (w2.setCell ⟨R, 4, none⟩ v') R vts vxs (N + 1) P (fun b => P b ∧ l.ownBlock ≠ some b) ∧ w2.cell? ⟨R, 4, none⟩ = some (V 2) ∧ w2.frozen? ⟨R, 4, none⟩ = false) := by
    intro wr w2 o f v' ho hg hap hf
    rw [← hV0] at hg hap
    obtain ⟨k1, k2⟩ := h.wrote (c := 2) (by omega) hf hP ho hg hap
    exact ⟨k1, by rw [cell_of_row _ _ _ _ _ _ k2]; rfl, frozen_of_row _ _ _ _ _ k2⟩
  have HOW : Hid (w.ownsRow b0 73 1 (.slice aoV (F 2).length capV) (F 2).length (F 2) ∧ b0 ≤ w.heap.size) := by
    have := h.own 2 (by omega)
    rw [hV0] at this
    exact ⟨this, by have := h.lo; have := heap_ltA h.blk; omega⟩
  obtain ⟨_, _, _, _, c2, _⟩ := h.cells
  rw [hV0] at c2 HTK
  rcases hl.2 with ⟨rfl, rfl⟩ | ⟨g, cap, cur, rfl, _, _, hnc, _⟩
  · have hb0 := HOW.out.2
    clear h hl hP hV0
    go_enter Tryz.func64, Tryz.ntmps64
    go_wp2_with fail
    go_loopw [5] (fun i wr => i = .int .i64 0 ∧ wr = w) (fun _ _ => 0)
    case atStart => exact ⟨rfl, rfl⟩
    case round =>
      obtain ⟨rfl, rfl⟩ := hrel
      go_wp2_with (at_builtin; refine append_new _ rfl _ _ 37 rfl b0 73 i0 (.slice none 0 0) 1 24 Tryz.underlying37 HI.out.1 HI.out.2.1 HI.out.2.2.1 HI.out.2.2.2 rfl (by decide) (.slice aoV (F 2).length capV) (F 2).length (F 2) rfl (HOW.out.1.alloc _) (some ⟨wr.heap.size, 0, none⟩) 1 1 [.slice none 0 0] rfl (fun h => by cases h) rfl (fun ad had => by cases had; exact new_one rfl) (by simp [Value.oneCell']) (by unfold maxLen; omega) (by omega) (by simp; omega) ?_)
      intro V8 w8 hown8 hgrow8 hap8
      obtain ⟨ao8, cap8, hf8, _⟩ := own_form hown8
      subst hf8
      obtain ⟨hK, d2, g2⟩ := HTK.out _ _ _ _ _ hown8 hgrow8 hap8 (Wrote.none _ B _ _)
      have HK := hid hK
      clear hK hown8 hgrow8 hap8 HTK
      go_wp2_with fail
      exact bodyPost_end (v := .tuple #[]) (results_none rfl _ _ _) rfl ⟨_, rfl, HK.out⟩
  · obtain ⟨ys, hys, hcm⟩ := own_full hl
    obtain ⟨_, hgl, _, hgR, hgV⟩ := h.pend g (hP g rfl)
    have HG : Hid (∀ wr, Only g w wr → wr.ownsRow b0 73 1 (.slice aoV (F 2).length capV) (F 2).length (F 2) ∧ b0 ≤ wr.heap.size) := fun wr hO => ⟨own_only HOW.out.1 hO (fun b hb e => hgV 2 (by omega) (by rw [hV0, ← e]; exact hb)), Nat.le_trans HOW.out.2 hO.size⟩
    have HY : Hid (Fil 2 B w w g cap 0 (-1000 - ((F 2).length : Int))) := Fil.zero hys _
    have hL0 : ((F 2).length : Int) ≤ 1000000000000 := by omega
    clear h hl hP hys HOW hgV hV0
    go_enter Tryz.func64, Tryz.ntmps64
    go_wp2_with fail
    go_loopw [5] (fun i wr => ∃ k : Nat, k ≤ cap ∧ i = .int .i64 k ∧ Hid (Fil 2 B w wr g cap k (-1000 - ((F 2).length : Int)))) (fun i _ => cap - (intOf i).toNat)
    case atStart => exact ⟨0, Nat.zero_le _, rfl, HY.out⟩
    case round =>
      clear HY
      obtain ⟨k, hk, rfl, hh⟩ := hrel
      have e2 := hh.out.only.cell c2 (fun e => hgR e.symm)
      by_cases hlt : k < cap
      · obtain ⟨⟨z0, hc0⟩, hf0⟩ := hh.out.next hlt 0 (by decide)
        obtain ⟨⟨z1, hc1⟩, hf1⟩ := hh.out.next hlt 1 (by decide)
        obtain ⟨⟨z2, hc2⟩, hf2⟩ := hh.out.next hlt 2 (by decide)
        obtain ⟨⟨z3, hc3⟩, hf3⟩ := hh.out.next hlt 3 (by decide)
        simp only [show szW 2 = 4 from rfl, Nat.add_zero] at hc0 hf0 hc1 hf1 hc2 hf2 hc3 hf3
        have HN1 := hid (hh.out.put2 hlt)
        have hkI : (k : Int) < (cap : Int) := by omega
        clear hh
        go_wp2_with fail
        go_roundw
        case measure => simp [intOf]; omega
        case rel => exact ⟨k + 1, by omega, by go_num, HN1.out⟩
      · have hkc : k = cap := by omega
        subst hkc
        obtain ⟨hOr, hb0⟩ := HG.out wr hh.out.only
        have HOr := hid hOr
        clear hOr
        go_wp2_with (at_builtin; refine append_new _ rfl _ _ 37 rfl b0 73 i0 (.slice none 0 0) 1 24 Tryz.underlying37 HI.out.1 HI.out.2.1 HI.out.2.2.1 HI.out.2.2.2 rfl (by decide) (.slice aoV (F 2).length capV) (F 2).length (F 2) rfl (HOr.out.alloc _) (some ⟨wr.heap.size, 0, none⟩) 1 1 [.slice (some ⟨g, 0, none⟩) k k] rfl (fun h => by cases h) rfl (fun ad had => by cases had; exact new_one rfl) (by simp [Value.oneCell']) (by unfold maxLen; omega) (by omega) (by simp; omega) ?_)
        intro V8 w8 hown8 hgrow8 hap8
        obtain ⟨ao8, cap8, hf8, _⟩ := own_form hown8
        subst hf8
        obtain ⟨hK, d2, g2⟩ := HTK.out _ _ _ _ _ hown8 hgrow8 hap8 (Wrote.some hh.out n)
        have HK := hid hK
        clear hK hown8 hgrow8 hap8 HTK hh HOr
        go_wp2_with fail
        exact bodyPost_end (v := .tuple #[]) (results_none rfl _ _ _) rfl ⟨_, rfl, HK.out⟩

end Go.Proofs.YtomijmikkbhgmaaGreat

namespace Go.Proofs.YtomijmikkbhgmaaGreat
open Go.RowKit

/-- In how many allowed candidates the condition holds, and in how many not. -/
def gdN (n : Nat) (c : List Atm) (L : List (Option (List Int))) : Nat := ((L.filterMap id).filter fun s => metB n c s).length
def bdN (n : Nat) (c : List Atm) (L : List (Option (List Int))) : Nat := ((L.filterMap id).filter fun s => !metB n c s).length
theorem gdN_none (n : Nat) (c : List Atm) (L : List (Option (List Int))) : gdN n c (L ++ [none]) = gdN n c L ∧ bdN n c (L ++ [none]) = bdN n c L := by
  unfold gdN bdN; rw [List.filterMap_append]; simp
theorem gdN_yes {n : Nat} {c : List Atm} {l : List Int} (h : metB n c l = true) (L : List (Option (List Int))) : gdN n c (L ++ [some l]) = gdN n c L + 1 ∧ bdN n c (L ++ [some l]) = bdN n c L := by
  unfold gdN bdN; rw [List.filterMap_append]; simp [h]
theorem gdN_no {n : Nat} {c : List Atm} {l : List Int} (h : metB n c l = false) (L : List (Option (List Int))) : gdN n c (L ++ [some l]) = gdN n c L ∧ bdN n c (L ++ [some l]) = bdN n c L + 1 := by
  unfold gdN bdN; rw [List.filterMap_append]; simp [h]
theorem gdN_le (n : Nat) (c : List Atm) (L : List (Option (List Int))) : gdN n c L ≤ L.length ∧ bdN n c L ≤ L.length := by
  unfold gdN bdN
  exact ⟨Nat.le_trans (List.length_filter_le _ _) (List.length_filterMap_le _ _), Nat.le_trans (List.length_filter_le _ _) (List.length_filterMap_le _ _)⟩

/-- A report. -/
def repV (g b : Nat) (fa : Bool) : Value := .agg #[.int .i64 (if g == 0 then 0 else if b == 0 then 2 else 1), .int .i64 g, .int .i64 b, .bool (if fa then b == 0 else decide (0 < g))]
def noRep : Value := .agg #[.int .i64 0, .int .i64 0, .int .i64 0, .bool false]
def verV (T : List (List Ins)) (c : List Atm) (fa : Bool) (al : Nat → Bool) : Value :=
  if (chk T c).1 == 0 then .tuple #[repV (gdN T.length c (optL al T (evsT T 0) (sizeN (evsT T 0)))) (bdN T.length c (optL al T (evsT T 0) (sizeN (evsT T 0)))) fa, .int .i64 0] else .tuple #[noRep, .int .i64 (chk T c).1]

/-- A report in a block of its own. -/
structure RepC (w : World) (R : Nat) (v : Int) (g b : Nat) (h : Bool) : Prop where
  c0 : w.cell? ⟨R, 0, none⟩ = some (.int .i64 v)
  c1 : w.cell? ⟨R, 1, none⟩ = some (.int .i64 g)
  c2 : w.cell? ⟨R, 2, none⟩ = some (.int .i64 b)
  c3 : w.cell? ⟨R, 3, none⟩ = some (.bool h)
  f0 : w.frozen? ⟨R, 0, none⟩ = false
  f1 : w.frozen? ⟨R, 1, none⟩ = false
  f2 : w.frozen? ⟨R, 2, none⟩ = false
  f3 : w.frozen? ⟨R, 3, none⟩ = false
theorem RepC.lt {w : World} {R : Nat} {v : Int} {g b : Nat} {h : Bool} (k : RepC w R v g b h) : R < w.heap.size := World.block_lt_of_cell? w _ k.c0
theorem RepC.keep {w w' : World} {R : Nat} {v : Int} {g b : Nat} {h : Bool} (k : RepC w R v g b h) (hb : Below w.heap.size w w') : RepC w' R v g b h :=
  ⟨keep_cell hb k.c0, keep_cell hb k.c1, keep_cell hb k.c2, keep_cell hb k.c3, (hb.frozen (p := ⟨R, 0, none⟩) k.lt).trans k.f0, (hb.frozen (p := ⟨R, 1, none⟩) k.lt).trans k.f1, (hb.frozen (p := ⟨R, 2, none⟩) k.lt).trans k.f2, (hb.frozen (p := ⟨R, 3, none⟩) k.lt).trans k.f3⟩

set_option maxRecDepth 20000 in
set_option maxHeartbeats 4000000 in
theorem verdictR_any (T : List (List Ins)) (fa : Bool) (c : List Atm) (al : Nat → Bool) (hal : Als T (evsT T 0) al) (vt vc : Value) (w : World) (h : TestAt w (.agg #[vt, .bool fa, vc]) T fa c vt vc) :
    Calls Tryz.prog 25 #[.agg #[vt, .bool fa, vc]] w fun e w' => e = .returned (verV T c fa al) ∧ Below w.heap.size w w' := by
  have HT : Hid (TestAt w (.agg #[vt, .bool fa, vc]) T fa c vt vc) := h
  have HALL : Hid (((chk T c).1 == 0) = true → ∀ w', Below w.heap.size w w' → Calls Tryz.prog 46 #[.agg #[vt, .bool fa, vc]] w' fun e w'' => ∃ u s, e = .returned (.tuple #[u, s]) ∧ OptAt w'' s (optL al T (evsT T 0) (sizeN (evsT T 0))) ∧ Below w'.heap.size w' w'') := fun hz w' hb => (all_any T fa c hz al hal vt vc w' (h.keep hb)).mono fun e w'' ⟨u, s, he, _, hs, hb'⟩ => ⟨u, s, he, hs, hb'⟩
  have HOK : Hid (((chk T c).1 == 0) = true → T.length ≤ 4 ∧ AtmsOk T.length c ∧ (optL al T (evsT T 0) (sizeN (evsT T 0))).length ≤ 2000 ∧ ∀ o ∈ optL al T (evsT T 0) (sizeN (evsT T 0)), StOk (3 * T.length + 3) o) := fun hz => ⟨(fits_of hz).short.t4, chk_atms hz, by rw [optL_len]; exact chk_many_no hz, optL_ok hz al _⟩
  have HJ : Hid (verV T c fa al = if (chk T c).1 == 0 then .tuple #[repV (gdN T.length c (optL al T (evsT T 0) (sizeN (evsT T 0)))) (bdN T.length c (optL al T (evsT T 0) (sizeN (evsT T 0)))) fa, .int .i64 0] else .tuple #[noRep, .int .i64 (chk T c).1]) := rfl
  generalize verV T c fa al = J at HJ ⊢
  generalize optL al T (evsT T 0) (sizeN (evsT T 0)) = L at HALL HOK HJ
  generalize hq : chk T c = q at HALL HOK HJ
  have HQ : Hid (chk T c = q) := hq
  clear hq h
  go_enter Tryz.func25, Tryz.ntmps25
  go_wp2_with fail
  have hba := below_two w (.cells #[vt, .bool fa, vc] 25) (.cells #[.int .i64 0, .int .i64 0, .int .i64 0, .bool false] 60)
  refine (checkR_any T fa c _ vt vc _ (HT.out.keep hba)).mono ?_
  rw [HQ.out]
  rintro e w3 ⟨rfl, hb3⟩
  have hbw3 := below_more hba hb3
  have t0 := keep_cell hb3 (b := w.heap.size) (off := 0) (u := vt) (by simp)
  have t1 := keep_cell hb3 (b := w.heap.size) (off := 1) (u := .bool fa) (by simp)
  have t2 := keep_cell hb3 (b := w.heap.size) (off := 2) (u := vc) (by simp)
  have HR3 : Hid (RepC w3 (w.heap.size + 1) 0 0 0 false) := by
    refine RepC.keep (w := (w.alloc (.cells #[vt, .bool fa, vc] 25)).alloc (.cells #[.int .i64 0, .int .i64 0, .int .i64 0, .bool false] 60)) ⟨?_, ?_, ?_, ?_, ?_, ?_, ?_, ?_⟩ hb3 <;> simp
  clear hb3
  cases hz : q.1 == 0
  · have hz2 : (q.1 != 0) = true := by simp [bne, hz]
    have HM : Hid (J = .tuple #[noRep, .int .i64 q.1]) := HJ.out.trans (by rw [hz]; rfl)
    obtain ⟨c0, c1, c2, c3, f0, f1, f2, f3⟩ := HR3.out
    clear HJ
    go_wp2_with fail
    refine bodyPost_ret (v := .tuple #[.agg #[.int .i64 0, .int .i64 0, .int .i64 0, .bool false], .int .i64 q.1]) (by simp [results, Tryz.results25, go_sem, *]) rfl ⟨by rw [HM.out]; rfl, ?_⟩
    exact (((hbw3.setCell (by simp) _).setCell (by simp) _).setCell (by simp) _).setCell (by simp) _
  · have hz2 : (q.1 != 0) = false := by simp [bne, hz]
    obtain ⟨hT4, hAt, hL2, hLok⟩ := HOK.out hz
    have HM : Hid (J = .tuple #[repV (gdN T.length c L) (bdN T.length c L) fa, .int .i64 0]) := HJ.out.trans (by rw [hz]; rfl)
    have HLS : Hid (∀ l, some l ∈ L → l.length = 3 * T.length + 3) := fun l hl => (hLok _ hl l rfl).1
    have HMT : Hid (∀ (s : List Int) (v : Value) (w' : World), s.length = 3 * T.length + 3 → Below w.heap.size w w' → IntAt w' v s → Calls Tryz.prog 50 #[.agg #[vt, .bool fa, vc], v] w' fun e w'' => e = .returned (.bool (metB T.length c s)) ∧ Below w'.heap.size w' w'') := fun s v w' hs hb hv => met_any T hT4 fa c hAt vt vc s hs v w' (HT.out.keep hb) hv
    have HA : Hid (∀ w', Below w.heap.size w w' → Calls Tryz.prog 46 #[.agg #[vt, .bool fa, vc]] w' fun e w'' => ∃ u s, e = .returned (.tuple #[u, s]) ∧ OptAt w'' s L ∧ Below w'.heap.size w' w'') := HALL.out hz
    have HGL : Hid (∀ k, gdN T.length c (L.take k) ≤ 2000 ∧ bdN T.length c (L.take k) ≤ 2000) := fun k => by
      have h1 := gdN_le T.length c (L.take k)
      have h2 := List.length_take_le k L
      have h3 : (L.take k).length ≤ L.length := by rw [List.length_take]; omega
      exact ⟨by omega, by omega⟩
    have q1 : ∀ (w : World) (a : Addr) (n c n' c' : Nat), (binOp .eql 26 (.slice (some a) n c) (.slice none n' c')).run Tryz.prog w = .ok (.bool false) w := fun w a n c n' c' => Lib.run_eql_slice_nil w _ _ (some a) n c n' c' Tryz.underlying26
    have q2 : ∀ (w : World) (n c n' c' : Nat), (binOp .eql 26 (.slice none n c) (.slice none n' c')).run Tryz.prog w = .ok (.bool true) w := fun w n c n' c' => Lib.run_eql_slice_nil w _ _ none n c n' c' Tryz.underlying26
    clear HJ HALL HOK hLok hAt
    go_wp2_with fail
    refine (HA.out w3 hbw3).mono ?_
    rintro e w4 ⟨ux, us, rfl, hus, hb4⟩
    have hbw4 := below_more hbw3 hb4
    obtain ⟨aoS, bS, offS, capS, hvS, haS, _, hcS⟩ := hus
    subst hvS
    have HSC : Hid (∀ k o, L[k]? = some o → ∃ u, w4.cell? ⟨bS, offS + k, none⟩ = some u ∧ OptV w4 u o) := fun k o hk => by
      obtain ⟨u, h1, h2⟩ := hcS k o hk
      rw [Nat.mul_one] at h1
      exact ⟨u, h1, h2⟩
    have HK : Hid (∀ w', Below w4.heap.size w4 w' → w'.cell? ⟨w.heap.size, 0, none⟩ = some vt ∧ w'.cell? ⟨w.heap.size, 1, none⟩ = some (.bool fa) ∧ w'.cell? ⟨w.heap.size, 2, none⟩ = some vc) := fun w' hb => ⟨keep_cell hb (keep_cell hb4 t0), keep_cell hb (keep_cell hb4 t1), keep_cell hb (keep_cell hb4 t2)⟩
    have HR4 : Hid (RepC w4 (w.heap.size + 1) 0 0 0 false) := HR3.out.keep hb4
    clear hcS t0 t1 t2 hb4 hbw3 HA HR3
    go_wp2_with fail
    go_loopw [9] (fun i wr => ∃ k : Nat, k ≤ L.length ∧ i = .int .i64 k ∧ Hid (RepC wr w4.heap.size 1 (gdN T.length c (L.take k)) (bdN T.length c (L.take k)) false) ∧ Below w4.heap.size w4 wr) (fun i _ => L.length - (intOf i).toNat)
    case atStart =>
      refine ⟨0, Nat.zero_le _, rfl, ?_, ?_⟩
      · show RepC _ _ _ 0 0 _
        refine ⟨?_, ?_, ?_, ?_, ?_, ?_, ?_, ?_⟩ <;> simp [go_sem]
      · exact below_alloc _ _
    case round =>
      obtain ⟨k, hk, rfl, hR, hb⟩ := hrel
      have hbw := below_more hbw4 hb
      obtain ⟨hg2, hb2⟩ := HGL.out k
      by_cases hkl : k < L.length
      · obtain ⟨o, ho⟩ := get_of_lt hkl
        obtain rfl := haS (ne_nil hkl)
        obtain ⟨uo, c0, huo⟩ := HSC.out k o ho
        replace c0 := keep_cell hb c0
        have htk : Hid (L.take (k + 1) = L.take k ++ [o]) := by show _ = _; rw [List.take_add_one, ho]; rfl
        have hkI : (k : Int) < (L.length : Int) := by omega
        have hmem := List.mem_of_getElem? ho
        clear ho
        cases o with
        | none =>
          have hu0 : uo = .slice none 0 0 := huo
          subst hu0
          have HN : Hid (gdN T.length c (L.take (k + 1)) = gdN T.length c (L.take k) ∧ bdN T.length c (L.take (k + 1)) = bdN T.length c (L.take k)) := by rw [htk.out]; exact gdN_none _ _ _
          clear huo hmem
          go_wp2_with fail
          go_roundw
          case measure => simp [intOf]; omega
          case rel => exact ⟨k + 1, by omega, by go_num, by rw [HN.out.1, HN.out.2]; exact hR.out, hb⟩
        | some l =>
          obtain ⟨al', capl, hul⟩ := OptV.form huo
          subst hul
          have hll := HLS.out l hmem
          have HM1 : Hid (∀ w', Below wr.heap.size wr w' → Calls Tryz.prog 50 #[.agg #[vt, .bool fa, vc], .slice (some al') l.length capl] w' fun e w'' => e = .returned (.bool (metB T.length c l)) ∧ Below w'.heap.size w' w'') := fun w' hb' => HMT.out l _ w' hll (below_more hbw hb') (huo.1.keep (below_more hb hb'))
          obtain ⟨t0, t1, t2⟩ := HK.out wr hb
          have HGY : Hid (metB T.length c l = true → gdN T.length c (L.take (k + 1)) = gdN T.length c (L.take k) + 1 ∧ bdN T.length c (L.take (k + 1)) = bdN T.length c (L.take k)) := fun hm => by rw [htk.out]; exact gdN_yes hm _
          have HGN : Hid (metB T.length c l = false → gdN T.length c (L.take (k + 1)) = gdN T.length c (L.take k) ∧ bdN T.length c (L.take (k + 1)) = bdN T.length c (L.take k) + 1) := fun hm => by rw [htk.out]; exact gdN_no hm _
          generalize metB T.length c l = mt at HM1 HGY HGN
          generalize gdN T.length c (L.take k) = g at hR HGY HGN hg2
          generalize bdN T.length c (L.take k) = bd at hR HGY HGN hb2
          clear huo hmem hll
          go_wp2_with fail
          have g0 := grown_cell t0
          have g1 := grown_cell t1
          have g2 := grown_cell t2
          have g3 := grown_cell c0
          have hnw := grw_some wr
          refine wp_region_grown (by kernel_rfl) (by kernel_rfl) ?_
          repeat (go_big_quiet_step ((go_at_call 50; exact grown_call (HM1.out _ (Grw.low _)))))
          refine wpQuiet_nil ?_
          intro w7 hw7
          obtain ⟨⟨w7', hb7⟩, rfl⟩ := hw7
          obtain ⟨c0, c1, c2, c3, f0, f1, f2, f3⟩ := hR.out.keep hb7
          have hb47 := below_more hb hb7
          clear g0 g1 g2 g3 HM1 hnw t0 t1 t2 hR
          cases mt
          · have HN := HGN.out rfl
            obtain ⟨hn1, hn2⟩ := HN
            have HN2 : Hid (gdN T.length c (L.take (k + 1)) = g ∧ bdN T.length c (L.take (k + 1)) = bd + 1) := ⟨hn1, hn2⟩
            have hwr : IntKind.i64.wrap ((bd : Int) + 1) = ((bd + 1 : Nat) : Int) := by rw [IntKind.wrap_i64]; omega
            clear hn1 hn2 HGY HGN
            go_wp2_with fail
            go_roundw
            case measure => simp [intOf]; omega
            case rel =>
              refine ⟨k + 1, by omega, by go_num, ?_, hb47.setCell (by simp) _⟩
              show RepC _ _ _ _ _ _
              rw [HN2.out.1, HN2.out.2]
              refine ⟨?_, ?_, ?_, ?_, ?_, ?_, ?_, ?_⟩ <;> simp [go_sem, *]
          · have HN := HGY.out rfl
            obtain ⟨hn1, hn2⟩ := HN
            have HN2 : Hid (gdN T.length c (L.take (k + 1)) = g + 1 ∧ bdN T.length c (L.take (k + 1)) = bd) := ⟨hn1, hn2⟩
            have hwr : IntKind.i64.wrap ((g : Int) + 1) = ((g + 1 : Nat) : Int) := by rw [IntKind.wrap_i64]; omega
            clear hn1 hn2 HGY HGN
            go_wp2_with fail
            go_roundw
            case measure => simp [intOf]; omega
            case rel =>
              refine ⟨k + 1, by omega, by go_num, ?_, hb47.setCell (by simp) _⟩
              show RepC _ _ _ _ _ _
              rw [HN2.out.1, HN2.out.2]
              refine ⟨?_, ?_, ?_, ?_, ?_, ?_, ?_, ?_⟩ <;> simp [go_sem, *]
      · have htk : L.take k = L := List.take_of_length_le (by omega)
        rw [htk] at hR hg2 hb2
        have hkI : (L.length : Int) ≤ (k : Int) := by omega
        generalize gdN T.length c L = g at hR HM hg2
        generalize bdN T.length c L = bd at hR HM hb2
        obtain ⟨c0, c1, c2, c3, f0, f1, f2, f3⟩ := hR.out
        have hRlt := hR.out.lt
        obtain ⟨r0, r1, r2, r3, s0, s1, s2, s3⟩ := HR4.out.keep hb
        have hrlt := (HR4.out.keep hb).lt
        obtain ⟨t0, t1, t2⟩ := HK.out wr hb
        have hs4 := HR4.out.lt
        clear hR htk
        have hsz4 := hbw4.size
        have hnR : w.heap.size + 1 ≠ w4.heap.size := by omega
        have e1 : ∀ u, (wr.setCell ⟨w4.heap.size, 0, none⟩ u).cell? ⟨w4.heap.size, 3, none⟩ = some (.bool false) := fun u => by simp [go_sem, c3]
        have e2 : ∀ u v, ((wr.setCell ⟨w4.heap.size, 0, none⟩ u).setCell ⟨w4.heap.size, 0, none⟩ v).cell? ⟨w4.heap.size, 3, none⟩ = some (.bool false) := fun u v => by simp [go_sem, c3]
        rcases Nat.eq_zero_or_pos g with hg0 | hg0
        · subst hg0
          rcases Nat.eq_zero_or_pos bd with hb0 | hb0
          · subst hb0
            cases fa
            · go_wp2_with fail
              refine bodyPost_ret (v := .tuple #[.agg #[.int .i64 0, .int .i64 0, .int .i64 0, .bool false], .int .i64 0]) (by simp [results, Tryz.results25, go_sem, *]) rfl ⟨by rw [HM.out]; rfl, ?_⟩
              repeat (refine Below.setCell ?_ (by first | (simp; done) | (simp; omega) | omega) _)
              exact hbw
            · go_wp2_with fail
              refine bodyPost_ret (v := .tuple #[.agg #[.int .i64 0, .int .i64 0, .int .i64 0, .bool true], .int .i64 0]) (by simp [results, Tryz.results25, go_sem, *]) rfl ⟨by rw [HM.out]; rfl, ?_⟩
              repeat (refine Below.setCell ?_ (by first | (simp; done) | (simp; omega) | omega) _)
              exact hbw
          · have hbe : ((bd : Int) == 0) = false := by simp; omega
            have hbn : (bd == 0) = false := by simp; omega
            cases fa
            · go_wp2_with fail
              refine bodyPost_ret (v := .tuple #[.agg #[.int .i64 0, .int .i64 0, .int .i64 bd, .bool false], .int .i64 0]) (by simp [results, Tryz.results25, go_sem, *]) rfl ⟨by rw [HM.out]; simp [repV], ?_⟩
              repeat (refine Below.setCell ?_ (by first | (simp; done) | (simp; omega) | omega) _)
              exact hbw
            · go_wp2_with fail
              refine bodyPost_ret (v := .tuple #[.agg #[.int .i64 0, .int .i64 0, .int .i64 bd, .bool false], .int .i64 0]) (by simp [results, Tryz.results25, go_sem, *]) rfl ⟨by rw [HM.out]; simp [repV, hbn], ?_⟩
              repeat (refine Below.setCell ?_ (by first | (simp; done) | (simp; omega) | omega) _)
              exact hbw
        · have hge : ((g : Int) == 0) = false := by simp; omega
          have hgn : (g == 0) = false := by simp; omega
          have hgI : (0 : Int) < (g : Int) := by omega
          rcases Nat.eq_zero_or_pos bd with hb0 | hb0
          · subst hb0
            cases fa
            · go_wp2_with fail
              refine bodyPost_ret (v := .tuple #[.agg #[.int .i64 2, .int .i64 g, .int .i64 0, .bool true], .int .i64 0]) (by simp [results, Tryz.results25, go_sem, *]) rfl ⟨by rw [HM.out]; simp [repV, hgn, hg0], ?_⟩
              repeat (refine Below.setCell ?_ (by first | (simp; done) | (simp; omega) | omega) _)
              exact hbw
            · go_wp2_with fail
              refine bodyPost_ret (v := .tuple #[.agg #[.int .i64 2, .int .i64 g, .int .i64 0, .bool true], .int .i64 0]) (by simp [results, Tryz.results25, go_sem, *]) rfl ⟨by rw [HM.out]; simp [repV, hgn], ?_⟩
              repeat (refine Below.setCell ?_ (by first | (simp; done) | (simp; omega) | omega) _)
              exact hbw
          · have hbe : ((bd : Int) == 0) = false := by simp; omega
            have hbn : (bd == 0) = false := by simp; omega
            cases fa
            · go_wp2_with fail
              refine bodyPost_ret (v := .tuple #[.agg #[.int .i64 1, .int .i64 g, .int .i64 bd, .bool true], .int .i64 0]) (by simp [results, Tryz.results25, go_sem, *]) rfl ⟨by rw [HM.out]; simp [repV, hgn, hbn, hg0], ?_⟩
              repeat (refine Below.setCell ?_ (by first | (simp; done) | (simp; omega) | omega) _)
              exact hbw
            · go_wp2_with fail
              refine bodyPost_ret (v := .tuple #[.agg #[.int .i64 1, .int .i64 g, .int .i64 bd, .bool false], .int .i64 0]) (by simp [results, Tryz.results25, go_sem, *]) rfl ⟨by rw [HM.out]; simp [repV, hgn, hbn], ?_⟩
              repeat (refine Below.setCell ?_ (by first | (simp; done) | (simp; omega) | omega) _)
              exact hbw

end Go.Proofs.YtomijmikkbhgmaaGreat
