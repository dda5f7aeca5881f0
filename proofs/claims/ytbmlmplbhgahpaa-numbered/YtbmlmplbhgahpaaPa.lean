import Derived.Test.YtbmlmplbhgahpaaOa
import Derived.Test.YtbmlmplbhgahpaaOb
import Derived.Test.YtbmlmplbhgahpaaLu
import Derived.Test.YtbmlmplbhgahpaaMath5
namespace Go.Proofs.Ytbmlmplbhgahpaa
open Go.RowKit

set_option maxHeartbeats 1000000 in
theorem asked_any (T : List (List Ins)) (fa : Bool) (c : List Atm) (v vt vc : Value) (w : World) (h : TestAt w v T fa c vt vc) :
    Calls Try.prog 18 #[v] w fun e w' => e = .returned (.int .i64 (chk T c).1) ∧ Below w.heap.size w w' := by
  have HT : Hid (TestAt w v T fa c vt vc) := h
  obtain ⟨hv, _, _⟩ := h
  subst hv
  go_enter Try.func18, Try.ntmps18
  go_wp2_with fail
  refine (checkR_any T fa c _ vt vc _ (HT.out.keep (below_alloc _ _))).mono ?_
  rintro e w3 ⟨rfl, hb3⟩
  have hbw3 := below_more (below_alloc _ _) hb3
  go_wp2_with fail
  go_ret
  exact ⟨rfl, hbw3⟩

theorem lx_step {a b : List Int} {k : Nat} {x : Int} (hx : a[k]? = some x) (hy : b[k]? = some x) : lx (a.drop k) (b.drop k) = lx (a.drop (k + 1)) (b.drop (k + 1)) := by
  rw [drop_cons hx, drop_cons hy, lx, if_pos (by simp)]

theorem lx_here {a b : List Int} {k : Nat} {x y : Int} (hx : a[k]? = some x) (hy : b[k]? = some y) (h : x ≠ y) : lx (a.drop k) (b.drop k) = decide (x < y) := by
  rw [drop_cons hx, drop_cons hy, lx, if_neg (by simpa using h)]

set_option maxHeartbeats 1000000 in
theorem less_any (l m : List Int) (hl : l.length ≤ 100000) (_hm : m.length ≤ 100000) (hlx : lx l m = true) (u v : Value) (w : World) (hu : IntAt w u l) (hv : IntAt w v m) :
    Calls Try.prog 23 #[u, v] w fun e w' => e = .returned (.bool true) ∧ Below w.heap.size w w' := by
  obtain ⟨ao, b, off, cap, hv1, ha, _, hc⟩ := hu
  obtain ⟨ao2, b2, off2, cap2, hv2, ha2, _, hc2⟩ := hv
  subst hv1 hv2
  have HC : Hid ((∀ k x, l[k]? = some x → IntC w b (off + k * 1) x) ∧ (∀ k x, m[k]? = some x → IntC w b2 (off2 + k * 1) x)) := ⟨hc, hc2⟩
  have HLX : Hid (lx l m = true) := hlx
  clear hc hc2 hlx
  go_enter Try.func23, Try.ntmps23
  go_wp2_with fail
  go_loopw [5] (fun i wr => ∃ k : Nat, k ≤ l.length ∧ k ≤ m.length ∧ i = .int .i64 k ∧ Hid (lx (l.drop k) (m.drop k) = true) ∧ Below w.heap.size w wr) (fun i _ => l.length - (intOf i).toNat)
  case atStart => exact ⟨0, Nat.zero_le _, Nat.zero_le _, rfl, HLX.out, Below.refl _ _⟩
  case round =>
    obtain ⟨k, hk, hk2, rfl, hn, hb⟩ := hrel
    clear HLX
    have hlt : k < l.length := by
      refine Nat.lt_of_not_le fun h => ?_
      have := hn.out
      rw [drop_nil (by omega)] at this
      simp [lx] at this
    have hlt2 : k < m.length := by
      refine Nat.lt_of_not_le fun h => ?_
      have := hn.out
      rw [drop_nil (l := m) (by omega)] at this
      cases hh : l.drop k <;> rw [hh] at this <;> simp [lx] at this
    obtain ⟨x, hx⟩ := get_of_lt hlt
    obtain ⟨y, hy⟩ := get_of_lt hlt2
    obtain rfl := ha (ne_nil hlt)
    obtain rfl := ha2 (ne_nil hlt2)
    have c0 := intC_keeps _ _ _ _ _ hb (HC.out.1 k x hx)
    have d0 := intC_keeps _ _ _ _ _ hb (HC.out.2 k y hy)
    unfold IntC at c0 d0
    rw [Nat.mul_one] at c0 d0
    have hkI : (k : Int) < (l.length : Int) := by omega
    have hkI2 : (k : Int) < (m.length : Int) := by omega
    by_cases hxy : x = y
    · subst hxy
      have HM : Hid (lx (l.drop (k + 1)) (m.drop (k + 1)) = true) := (lx_step hx hy).symm.trans hn.out
      have n0 : (x != x) = false := by simp
      clear hx hy hn
      go_wp2_with fail
      go_quiet (fail)
      go_wp2_with fail
      go_roundw
      case measure => simp [intOf]; omega
      case rel => exact ⟨k + 1, by omega, by omega, by go_num, HM.out, below_drewN hb _⟩
    · have n0 : (x != y) = true := by simpa using hxy
      have n1 : x < y := by
        have := (lx_here hx hy hxy).symm.trans hn.out
        simpa using this
      clear hx hy hn
      go_wp2_with fail
      go_quiet (fail)
      go_wp2_with fail
      go_quiet (fail)
      go_wp2_with fail
      go_ret
      exact ⟨rfl, below_drewN (below_drewN hb _) _⟩

end Go.Proofs.Ytbmlmplbhgahpaa
