import Derived.Test.YtomijmikkbhgmaaGreatT25
import Derived.Test.YtomijmikkbhgmaaGreatT40
namespace Go.Proofs.YtomijmikkbhgmaaGreat
open Go.RowKit

/-- A list of World's, as it is read. -/
theorem WM.entry {b0 : Nat} {w : World} {R : Nat} {vts vxs : Value} {N : Nat} {V : Nat → Value} {F : Nat → List Value} {MB P : Nat → Prop} (h : WM b0 w R vts vxs N V F MB P) {c : Nat} (hc : c < 4) {ao : Option Addr} {cap : Nat} (hV : V c = .slice ao (F c).length cap) (k : Nat) (hk : k < (F c).length) :
    ∃ gV a n xs, ao = some ⟨gV, 0, none⟩ ∧ w.cell? ⟨gV, k, none⟩ = some (.slice a n n) ∧ n ≤ 9223372036854775807 ∧ (∀ j, j < n → ∃ g, a = some ⟨g, 0, none⟩ ∧ ∀ i, i < szW c → w.cell? ⟨g, j * szW c + i, none⟩ = xs[j * szW c + i]?) ∧ MarkC c MB w xs n (-1000 - (k : Int)) := by
  have ho := h.own c hc
  obtain ⟨f, hf⟩ := get_of_lt hk
  obtain ⟨n, xs, h1, ⟨a, h2⟩, h3, h4⟩ := h.mark c k f hc hf
  rw [hV] at ho
  rcases ho.2 with ⟨_, h0⟩ | ⟨g, cap', _, hv, _⟩
  · omega
  · simp only [Value.slice.injEq, true_and] at hv
    obtain ⟨hv1, hv2⟩ := hv
    subst hv1 hv2
    refine ⟨g, a, n, xs, rfl, by rw [ho.cellAt k (by omega), hf, h2], ?_, fun j hj => ?_, h4⟩
    · rcases h1.2 with ⟨_, h0⟩ | ⟨_, _, _, _, _, _, q1, q2, _⟩
      · omega
      · unfold maxLen at q2; omega
    · subst h2
      rcases h1.2 with ⟨_, h0⟩ | ⟨g2, _, _, q, _⟩
      · omega
      · simp only [Value.slice.injEq, true_and] at q
        obtain ⟨q1, q2⟩ := q
        subst q1
        refine ⟨g2, rfl, fun i hi => h1.cellAt _ ?_⟩
        have hle : (j + 1) * szW c ≤ n * szW c := Nat.mul_le_mul_right _ hj
        rw [Nat.add_mul, Nat.one_mul] at hle
        omega

set_option maxRecDepth 20000 in
set_option maxHeartbeats 4000000 in
theorem wholeLists_any (b0 : Nat) (R : Nat) (vts vxs : Value) (N : Nat) (V : Nat → Value) (F : Nat → List Value) (MB P : Nat → Prop) (w : World) (h : WM b0 w R vts vxs N V F MB P) (hN : N ≤ 1000000000000) :
    Calls Tryz.prog 38 #[.pointer (some ⟨R, 0, none⟩)] w fun e w' => e = .returned (.bool true) ∧ Below w.heap.size w w' := by
  obtain ⟨a0, p0, hV0, _⟩ := own_form (h.own 0 (by omega))
  obtain ⟨a1, p1, hV1, _⟩ := own_form (h.own 1 (by omega))
  have hl0 := h.len 0 (by omega)
  have hl1 := h.len 1 (by omega)
  obtain ⟨_, _, c0, c1, _⟩ := h.cells
  rw [hV0] at c0
  rw [hV1] at c1
  have HE0 : Hid (∀ k, k < (F 0).length → ∃ gV a n, a0 = some ⟨gV, 0, none⟩ ∧ w.cell? ⟨gV, k, none⟩ = some (.slice a n n) ∧ n ≤ 9223372036854775807 ∧ ∀ j, j < n → ∃ g, a = some ⟨g, 0, none⟩ ∧ w.cell? ⟨g, j, none⟩ = some (.int .i64 (-1000 - (k : Int)))) := fun k hk => by
    obtain ⟨gV, a, n, xs, q1, q2, q3, q4, q5⟩ := h.entry (c := 0) (by omega) hV0 k hk
    refine ⟨gV, a, n, q1, q2, q3, fun j hj => ?_⟩
    obtain ⟨g, r1, r2⟩ := q4 j hj
    have r3 := r2 0 (by decide)
    simp only [show szW 0 = 1 from rfl, Nat.add_zero, Nat.mul_one] at r3
    unfold MarkC at q5
    rw [if_pos rfl] at q5
    exact ⟨g, r1, by rw [r3, q5 j hj]⟩
  have HE1 : Hid (∀ k, k < (F 1).length → ∃ gV a n, a1 = some ⟨gV, 0, none⟩ ∧ w.cell? ⟨gV, k, none⟩ = some (.slice a n n) ∧ n ≤ 9223372036854775807 ∧ ∀ j, j < n → ∃ g g2, a = some ⟨g, 0, none⟩ ∧ w.cell? ⟨g, j, none⟩ = some (.slice (some ⟨g2, 0, none⟩) 1 1) ∧ w.cell? ⟨g2, 0, none⟩ = some (.int .i64 (-1000 - (k : Int)))) := fun k hk => by
    obtain ⟨gV, a, n, xs, q1, q2, q3, q4, q5⟩ := h.entry (c := 1) (by omega) hV1 k hk
    refine ⟨gV, a, n, q1, q2, q3, fun j hj => ?_⟩
    obtain ⟨g, r1, r2⟩ := q4 j hj
    have r3 := r2 0 (by decide)
    simp only [show szW 1 = 1 from rfl, Nat.add_zero, Nat.mul_one] at r3
    unfold MarkC at q5
    rw [if_neg (by decide), if_pos rfl] at q5
    obtain ⟨g2, s1, _, s2⟩ := q5 j hj
    exact ⟨g, g2, r1, by rw [r3, s1], by rw [cell_of_row _ _ _ _ _ _ s2]; rfl⟩
  clear h hV0 hV1
  generalize (F 0).length = l0 at *
  generalize (F 1).length = l1 at *
  go_enter Tryz.func38, Tryz.ntmps38
  go_wp2_with fail
  go_loopw [3] (fun i wr => ∃ k : Nat, k ≤ l0 ∧ i = .int .i64 k ∧ wr = w) (fun i _ => l0 - (intOf i).toNat)
  case atStart => exact ⟨0, Nat.zero_le _, rfl, rfl⟩
  case round =>
    obtain ⟨k, hk, rfl, rfl⟩ := hrel
    by_cases hlt : k < l0
    · obtain ⟨gV, a, n, rfl, e1, e2, e3⟩ := HE0.out k hlt
      have HE3 : Hid (∀ j, j < n → ∃ g, a = some ⟨g, 0, none⟩ ∧ wr.cell? ⟨g, j, none⟩ = some (.int .i64 (-1000 - (k : Int)))) := e3
      have hkI : (k : Int) < (l0 : Int) := by omega
      clear e3
      obtain ⟨w1, hw1⟩ : ∃ x, x = wr := ⟨_, rfl⟩
      subst hw1
      go_wp2_with fail
      go_loopw [4] (fun i wr => ∃ j : Nat, j ≤ n ∧ i = .int .i64 j ∧ wr = w1) (fun i _ => n - (intOf i).toNat)
      case atStart => exact ⟨0, Nat.zero_le _, rfl, rfl⟩
      case round =>
        obtain ⟨j, hj, rfl, rfl⟩ := hrel
        by_cases hjl : j < n
        · obtain ⟨g, rfl, e3⟩ := HE3.out j hjl
          have hjI : (j : Int) < (n : Int) := by omega
          go_wp2_with fail
          go_roundw
          case measure => simp [intOf]; omega
          case rel => exact ⟨j + 1, by omega, by go_num, by first | rfl | trivial⟩
        · have hjI : (n : Int) ≤ (j : Int) := by omega
          go_wp2_with fail
          go_roundw
          case measure => simp [intOf]; omega
          case rel => exact ⟨k + 1, by omega, by go_num, by first | rfl | trivial⟩
    · have hkI : (l0 : Int) ≤ (k : Int) := by omega
      obtain ⟨w1, hw1⟩ : ∃ x, x = wr := ⟨_, rfl⟩
      subst hw1
      clear HE0
      go_wp2_with fail
      go_loopw [5, 7] (fun i u wr => ∃ k : Nat, k ≤ l1 ∧ i = .int .i64 k ∧ wr = w1) (fun i _ _ => l1 - (intOf i).toNat)
      case atStart => exact ⟨0, Nat.zero_le _, rfl, rfl⟩
      case round =>
        obtain ⟨k2, hk2, rfl, rfl⟩ := hrel
        by_cases hlt2 : k2 < l1
        · obtain ⟨gV, a, n, rfl, e1, e2, e3⟩ := HE1.out k2 hlt2
          have HE3 : Hid (∀ j, j < n → ∃ g g2, a = some ⟨g, 0, none⟩ ∧ wr.cell? ⟨g, j, none⟩ = some (.slice (some ⟨g2, 0, none⟩) 1 1) ∧ wr.cell? ⟨g2, 0, none⟩ = some (.int .i64 (-1000 - (k2 : Int)))) := e3
          have hkI2 : (k2 : Int) < (l1 : Int) := by omega
          clear e3
          obtain ⟨w1, hw1⟩ : ∃ x, x = wr := ⟨_, rfl⟩
          subst hw1
          go_wp2_with fail
          go_loopw [6, 7] (fun i u wr => ∃ j : Nat, j ≤ n ∧ i = .int .i64 j ∧ wr = w1) (fun i _ _ => n - (intOf i).toNat)
          case atStart => exact ⟨0, Nat.zero_le _, rfl, rfl⟩
          case round =>
            obtain ⟨j, hj, rfl, rfl⟩ := hrel
            by_cases hjl : j < n
            · obtain ⟨g, g2, rfl, e3, e4⟩ := HE3.out j hjl
              have hjI : (j : Int) < (n : Int) := by omega
              go_wp2_with fail
              go_roundw
              case measure => simp [intOf]; omega
              case rel => exact ⟨j + 1, by omega, by go_num, by first | rfl | trivial⟩
            · have hjI : (n : Int) ≤ (j : Int) := by omega
              go_wp2_with fail
              go_roundw
              case measure => simp [intOf]; omega
              case rel => exact ⟨k2 + 1, by omega, by go_num, by first | rfl | trivial⟩
        · have hkI2 : (l1 : Int) ≤ (k2 : Int) := by omega
          go_wp2_with fail
          go_ret
          exact ⟨rfl, Below.refl _ _⟩

set_option maxRecDepth 20000 in
set_option maxHeartbeats 4000000 in
theorem whole_any (b0 : Nat) (R : Nat) (vts vxs : Value) (N : Nat) (V : Nat → Value) (F : Nat → List Value) (MB P : Nat → Prop) (w : World) (h : WM b0 w R vts vxs N V F MB P) (hN : N ≤ 1000000000000) :
    Calls Tryz.prog 15 #[.pointer (some ⟨R, 0, none⟩)] w fun e w' => e = .returned (.bool true) ∧ Below w.heap.size w w' := by
  have HWL : Hid (∀ w', Below w.heap.size w w' → Calls Tryz.prog 38 #[.pointer (some ⟨R, 0, none⟩)] w' fun e w'' => e = .returned (.bool true) ∧ Below w'.heap.size w' w'') := fun w' hb => wholeLists_any b0 R vts vxs N V F MB P w' (h.keep hb) hN
  obtain ⟨a0, p0, hV0, _⟩ := own_form (h.own 2 (by omega))
  obtain ⟨a1, p1, hV1, _⟩ := own_form (h.own 3 (by omega))
  have hl0 := h.len 2 (by omega)
  have hl1 := h.len 3 (by omega)
  obtain ⟨_, _, _, _, c0, c1, _⟩ := h.cells
  rw [hV0] at c0
  rw [hV1] at c1
  have HE0 : Hid (∀ k, k < (F 2).length → ∃ gV a n, a0 = some ⟨gV, 0, none⟩ ∧ w.cell? ⟨gV, k, none⟩ = some (.slice a n n) ∧ n ≤ 9223372036854775807 ∧ ∀ j, j < n → ∃ g, a = some ⟨g, 0, none⟩ ∧ w.cell? ⟨g, j * 4, none⟩ = some (.int .i64 0) ∧ w.cell? ⟨g, j * 4 + 1, none⟩ = some (.int .i64 (-1000 - (k : Int))) ∧ w.cell? ⟨g, j * 4 + 2, none⟩ = some (.int .i64 0) ∧ w.cell? ⟨g, j * 4 + 3, none⟩ = some (.int .i64 0)) := fun k hk => by
    obtain ⟨gV, a, n, xs, q1, q2, q3, q4, q5⟩ := h.entry (c := 2) (by omega) hV0 k hk
    refine ⟨gV, a, n, q1, q2, q3, fun j hj => ?_⟩
    obtain ⟨g, r1, r2⟩ := q4 j hj
    have s0 := r2 0 (by decide)
    have s1 := r2 1 (by decide)
    have s2 := r2 2 (by decide)
    have s3 := r2 3 (by decide)
    simp only [show szW 2 = 4 from rfl, Nat.add_zero] at s0 s1 s2 s3
    unfold MarkC at q5
    rw [if_neg (by decide), if_neg (by decide), if_pos rfl] at q5
    obtain ⟨t0, t1, t2, t3⟩ := q5 j hj
    exact ⟨g, r1, by rw [s0, t0], by rw [s1, t1], by rw [s2, t2], by rw [s3, t3]⟩
  have HE1 : Hid (∀ k, k < (F 3).length → ∃ gV a n, a1 = some ⟨gV, 0, none⟩ ∧ w.cell? ⟨gV, k, none⟩ = some (.slice a n n) ∧ n ≤ 9223372036854775807 ∧ ∀ j, j < n → ∃ g, a = some ⟨g, 0, none⟩ ∧ w.cell? ⟨g, j * 2, none⟩ = some (.slice none 0 0) ∧ w.cell? ⟨g, j * 2 + 1, none⟩ = some (.int .i64 (-1000 - (k : Int)))) := fun k hk => by
    obtain ⟨gV, a, n, xs, q1, q2, q3, q4, q5⟩ := h.entry (c := 3) (by omega) hV1 k hk
    refine ⟨gV, a, n, q1, q2, q3, fun j hj => ?_⟩
    obtain ⟨g, r1, r2⟩ := q4 j hj
    have s0 := r2 0 (by decide)
    have s1 := r2 1 (by decide)
    simp only [show szW 3 = 2 from rfl, Nat.add_zero] at s0 s1
    unfold MarkC at q5
    rw [if_neg (by decide), if_neg (by decide), if_neg (by decide)] at q5
    obtain ⟨t0, t1⟩ := q5 j hj
    exact ⟨g, r1, by rw [s0, t0], by rw [s1, t1]⟩
  clear h hV0 hV1
  generalize (F 2).length = l0 at *
  generalize (F 3).length = l1 at *
  go_enter Tryz.func15, Tryz.ntmps15
  go_wp2_with fail
  go_loopw [3, 5] (fun i u wr => ∃ k : Nat, k ≤ l0 ∧ i = .int .i64 k ∧ Below w.heap.size w wr) (fun i _ _ => l0 - (intOf i).toNat)
  case atStart => exact ⟨0, Nat.zero_le _, rfl, Below.refl _ _⟩
  case round =>
    obtain ⟨k, hk, rfl, hb⟩ := hrel
    have d0 := keep_cell hb c0
    by_cases hlt : k < l0
    · obtain ⟨gV, a, n, rfl, e1, e2, e3⟩ := HE0.out k hlt
      have HE3 := hid e3
      have hkI : (k : Int) < (l0 : Int) := by omega
      clear e3
      have f1 := keep_cell hb e1
      go_wp2_with fail
      clear d0 f1
      go_loopw [4, 5] (fun i u wr => ∃ j : Nat, j ≤ n ∧ i = .int .i64 j ∧ Below w.heap.size w wr) (fun i _ _ => n - (intOf i).toNat)
      case atStart => exact ⟨0, Nat.zero_le _, rfl, hb⟩
      case round =>
        clear hb
        obtain ⟨j, hj, rfl, hb⟩ := hrel
        have d0 := keep_cell hb c0
        have f1 := keep_cell hb e1
        by_cases hjl : j < n
        · obtain ⟨g, rfl, q0, q1, q2, q3⟩ := HE3.out j hjl
          replace q0 := keep_cell hb q0
          replace q1 := keep_cell hb q1
          replace q2 := keep_cell hb q2
          replace q3 := keep_cell hb q3
          have hjI : (j : Int) < (n : Int) := by omega
          go_wp2_with fail
          go_roundw
          case measure => simp [intOf]; omega
          case rel => exact ⟨j + 1, by omega, by go_num, hb.alloc hb.size _⟩
        · have hjI : (n : Int) ≤ (j : Int) := by omega
          go_wp2_with fail
          go_roundw
          case measure => simp [intOf]; omega
          case rel => exact ⟨k + 1, by omega, by go_num, hb⟩
    · have hkI : (l0 : Int) ≤ (k : Int) := by omega
      clear HE0
      go_wp2_with fail
      clear d0
      go_loopw [6, 8] (fun i u wr => ∃ k : Nat, k ≤ l1 ∧ i = .int .i64 k ∧ Below w.heap.size w wr) (fun i _ _ => l1 - (intOf i).toNat)
      case atStart => exact ⟨0, Nat.zero_le _, rfl, hb⟩
      case round =>
        clear hb
        obtain ⟨k2, hk2, rfl, hb⟩ := hrel
        have d0 := keep_cell hb c1
        by_cases hlt2 : k2 < l1
        · obtain ⟨gV, a, n, rfl, e1, e2, e3⟩ := HE1.out k2 hlt2
          have HE3 := hid e3
          have hkI2 : (k2 : Int) < (l1 : Int) := by omega
          clear e3
          have f1 := keep_cell hb e1
          go_wp2_with fail
          clear d0 f1
          go_loopw [7, 8] (fun i u wr => ∃ j : Nat, j ≤ n ∧ i = .int .i64 j ∧ Below w.heap.size w wr) (fun i _ _ => n - (intOf i).toNat)
          case atStart => exact ⟨0, Nat.zero_le _, rfl, hb⟩
          case round =>
            clear hb
            obtain ⟨j, hj, rfl, hb⟩ := hrel
            have d0 := keep_cell hb c1
            have f1 := keep_cell hb e1
            by_cases hjl : j < n
            · obtain ⟨g, rfl, q0, q1⟩ := HE3.out j hjl
              replace q0 := keep_cell hb q0
              replace q1 := keep_cell hb q1
              have hjI : (j : Int) < (n : Int) := by omega
              go_wp2_with fail
              go_roundw
              case measure => simp [intOf]; omega
              case rel => exact ⟨j + 1, by omega, by go_num, hb.alloc hb.size _⟩
            · have hjI : (n : Int) ≤ (j : Int) := by omega
              go_wp2_with fail
              go_roundw
              case measure => simp [intOf]; omega
              case rel => exact ⟨k2 + 1, by omega, by go_num, hb⟩
        · have hkI2 : (l1 : Int) ≤ (k2 : Int) := by omega
          go_wp2_with fail
          refine (HWL.out wr hb).mono ?_
          rintro e w3 ⟨rfl, hb3⟩
          go_wp2_with fail
          go_ret
          exact ⟨rfl, below_more hb hb3⟩

end Go.Proofs.YtomijmikkbhgmaaGreat

namespace Go.Proofs.YtomijmikkbhgmaaGreat
open Go.RowKit

theorem WM.start (w : World) (vts vxs : Value) : WM w.heap.size (w.alloc (.cells #[vts, vxs, .slice none 0 0, .slice none 0 0, .slice none 0 0, .slice none 0 0] 40)) w.heap.size vts vxs 0 (fun _ => .slice none 0 0) (fun _ => []) (fun _ => False) (fun _ => False) :=
  ⟨Nat.le_refl _, heap_alloc_new _ _, fun _ _ => ⟨rfl, .inl ⟨rfl, rfl⟩⟩, fun _ _ => Nat.zero_le _, fun c k f _ hf => by simp at hf, fun _ h => h.elim, fun _ h => h.elim, fun _ h => h.elim⟩

/-- What holds ahead of step k. -/
structure AInv (w wr : World) (R : Nat) (vts vxs : Value) (k : Nat) : Prop where
  wm : ∃ V F MB, WM w.heap.size wr R vts vxs (2001 * k) V F MB (fun _ => False)
  below : Below w.heap.size w wr

theorem AInv.next {w wr w1 w2 : World} {R : Nat} {vts vxs : Value} {k : Nat} (h : AInv w wr R vts vxs k) (t : Took w.heap.size wr w1 R vts vxs (2001 * k + 2001) (fun _ => False) (fun _ => False)) (hb : Below w1.heap.size w1 w2) : AInv w w2 R vts vxs (k + 1) := by
  obtain ⟨V, F, MB, q⟩ := t.wm
  have h1 := h.below.size
  have h2 := t.frm.below.size
  exact ⟨⟨V, F, MB, (q.keep hb).le (by omega) fun _ q => q⟩, (h.below.trans t.frm.below).trans (hb.mono (by omega))⟩

set_option maxRecDepth 20000 in
set_option maxHeartbeats 16000000 in
theorem allL_any (vts vxs vos : Value) (w : World) (hts : TssAt w vts) (hxs : ExsAt w vxs) (hos : OpsAt w vos) :
    Calls Tryz.prog 8 #[vts, vxs, vos] w fun e w' => e = .returned (.bool true) ∧ Below w.heap.size w w' := by
  have HTS := hid hts
  have HXS := hid hxs
  obtain ⟨ao, n, cap, rfl, hn, ho⟩ := hos
  have HO := hid ho
  obtain ⟨aT, nT, cT, hT, _⟩ := hts
  obtain ⟨aX, nX, cX, hX, _⟩ := hxs
  subst hT hX
  clear ho
  go_enter Tryz.func8, Tryz.ntmps8
  go_wp2_with fail
  go_loopw [8, 9] (fun i u wr => ∃ k : Nat, k ≤ n ∧ i = .int .i64 k ∧ Hid (AInv w wr w.heap.size (.slice aT nT cT) (.slice aX nX cX) k)) (fun i _ _ => n - (intOf i).toNat)
  case atStart => exact ⟨0, Nat.zero_le _, rfl, ⟨⟨_, _, _, WM.start w _ _⟩, below_alloc _ _⟩⟩
  case round =>
    obtain ⟨k, hk, rfl, hA⟩ := hrel
    have hbr := hA.out.below
    by_cases hlt : k < n
    · obtain ⟨b, off, kd, a, bn, rfl, q0, q1, q2, ha, hbn⟩ := HO.out k hlt
      replace q0 := keep_cell hbr q0
      replace q1 := keep_cell hbr q1
      replace q2 := keep_cell hbr q2
      obtain ⟨V, F, MB, hW⟩ := hA.out.wm
      have HST := hid (step_anyW w.heap.size w.heap.size _ _ (2001 * k) V F MB (fun _ => False) wr hW (by omega) w rfl hbr HXS.out HTS.out kd a bn ha hbn)
      have hkI : (k : Int) < (n : Int) := by omega
      clear hW
      go_wp2_with fail
      refine HST.out.mono ?_
      rintro e w1 ⟨rfl, ht⟩
      obtain ⟨V1, F1, MB1, hW1⟩ := ht.wm
      have HWH := hid (whole_any w.heap.size w.heap.size _ _ (2001 * k + 2001) V1 F1 MB1 _ w1 hW1 (by omega))
      have HNX := hid (fun (w2 : World) (hb2 : Below w1.heap.size w1 w2) => hA.out.next ht hb2)
      clear hW1 ht HST q0 q1 q2
      go_wp2_with fail
      refine HWH.out.mono ?_
      rintro e w2 ⟨rfl, hb2⟩
      have HK := hid (HNX.out w2 hb2)
      clear HWH HNX
      go_wp2_with fail
      go_roundw
      case measure => simp [intOf]; omega
      case rel => exact ⟨k + 1, by omega, by go_num, HK.out⟩
    · have hkI : (n : Int) ≤ (k : Int) := by omega
      clear hA
      go_wp2_with fail
      go_ret
      exact ⟨rfl, hbr⟩

end Go.Proofs.YtomijmikkbhgmaaGreat
