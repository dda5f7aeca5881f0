import Derived.Test.YtbmlmplbhgahpaaPex
import Derived.Deep.RegionWith
namespace Go.Proofs.Ytbmlmplbhgahpaa
open Go.RowKit

set_option maxHeartbeats 1000000 in
theorem sameInts_any (l : List Int) (hl : l.length ≤ 100000) (u v : Value) (w : World) (hu : IntAt w u l) (hv : IntAt w v l) :
    Calls Try.prog 36 #[u, v] w fun e w' => e = .returned (.bool true) ∧ Below w.heap.size w w' := by
  obtain ⟨ao, b, off, cap, hv1, ha, _, hc⟩ := hu
  obtain ⟨ao2, b2, off2, cap2, hv2, ha2, _, hc2⟩ := hv
  subst hv1 hv2
  have HC : Hid ((∀ k x, l[k]? = some x → IntC w b (off + k * 1) x) ∧ (∀ k x, l[k]? = some x → IntC w b2 (off2 + k * 1) x)) := ⟨hc, hc2⟩
  clear hc hc2
  have k0 : ((l.length : Int) != (l.length : Int)) = false := by simp
  go_enter Try.func36, Try.ntmps36
  go_wp2_with fail
  go_loopw [5] (fun i wr => ∃ k : Nat, k ≤ l.length ∧ i = .int .i64 k ∧ Below w.heap.size w wr) (fun i _ => l.length - (intOf i).toNat)
  case atStart => exact ⟨0, Nat.zero_le _, rfl, Below.refl _ _⟩
  case round =>
    obtain ⟨k, hk, rfl, hb⟩ := hrel
    by_cases hlt : k < l.length
    · obtain ⟨x, hx⟩ := get_of_lt hlt
      obtain rfl := ha (ne_nil hlt)
      obtain rfl := ha2 (ne_nil hlt)
      have c0 := intC_keeps _ _ _ _ _ hb (HC.out.1 k x hx)
      have d0 := intC_keeps _ _ _ _ _ hb (HC.out.2 k x hx)
      unfold IntC at c0 d0
      rw [Nat.mul_one] at c0 d0
      have n0 : (x != x) = false := by simp
      have hkI : (k : Int) < (l.length : Int) := by omega
      clear hx
      go_wp2_with fail
      go_quiet (fail)
      go_wp2_with fail
      go_roundw
      case measure => simp [intOf]; omega
      case rel => exact ⟨k + 1, by omega, by go_num, below_drewN hb _⟩
    · go_wp2_with fail
      go_ret
      exact ⟨rfl, hb⟩

set_option maxHeartbeats 1000000 in
theorem sameLists_any (L : List (List Int)) (hL : L.length ≤ 100000) (hl : ∀ x ∈ L, x.length ≤ 100000) (u v : Value) (w : World) (hu : LstAt w u L) (hv : LstAt w v L) :
    Calls Try.prog 37 #[u, v] w fun e w' => e = .returned (.bool true) ∧ Below w.heap.size w w' := by
  obtain ⟨ao, b, off, cap, hv1, ha, _, hc⟩ := hu
  obtain ⟨ao2, b2, off2, cap2, hv2, ha2, _, hc2⟩ := hv
  subst hv1 hv2
  have HC : Hid ((∀ k x, L[k]? = some x → LC w b (off + k * 1) x) ∧ (∀ k x, L[k]? = some x → LC w b2 (off2 + k * 1) x) ∧ ∀ x ∈ L, x.length ≤ 100000) := ⟨hc, hc2, hl⟩
  clear hc hc2 hl
  have k0 : ((L.length : Int) != (L.length : Int)) = false := by simp
  go_enter Try.func37, Try.ntmps37
  go_wp2_with fail
  go_loopw [5] (fun i wr => ∃ k : Nat, k ≤ L.length ∧ i = .int .i64 k ∧ Below w.heap.size w wr) (fun i _ => L.length - (intOf i).toNat)
  case atStart => exact ⟨0, Nat.zero_le _, rfl, Below.refl _ _⟩
  case round =>
    obtain ⟨k, hk, rfl, hb⟩ := hrel
    by_cases hlt : k < L.length
    · obtain ⟨x, hx⟩ := get_of_lt hlt
      obtain rfl := ha (ne_nil hlt)
      obtain rfl := ha2 (ne_nil hlt)
      obtain ⟨u1, c0, i1⟩ := lc_keeps _ _ _ _ _ hb (HC.out.1 k x hx)
      obtain ⟨u2, d0, i2⟩ := lc_keeps _ _ _ _ _ hb (HC.out.2.1 k x hx)
      rw [Nat.mul_one] at c0 d0
      have HI : Hid (IntAt wr u1 x ∧ IntAt wr u2 x ∧ x.length ≤ 100000) := ⟨i1, i2, HC.out.2.2 x (List.mem_of_getElem? hx)⟩
      have hkI : (k : Int) < (L.length : Int) := by omega
      clear hx i1 i2
      go_wp2_with fail
      go_region_with (go_at_call 36; refine (sameInts_any x HI.out.2.2 u1 u2 _ (HI.out.1.keep (Below.refl _ _).drew) (HI.out.2.1.keep (Below.refl _ _).drew)).mono ?_; rintro e w5 ⟨rfl, hb5⟩)
      all_goals
        go_wp2_with fail
        go_roundw
        case measure => simp [intOf]; omega
        case rel => exact ⟨k + 1, by omega, by go_num, below_more hb.drew hb5⟩
    · go_wp2_with fail
      go_ret
      exact ⟨rfl, hb⟩

set_option maxHeartbeats 1000000 in
theorem sameExec_any (x : Exe) (h1 : x.from'.length ≤ 100000) (h2 : x.order.length ≤ 100000) (h3 : ∀ y ∈ x.order, y.length ≤ 100000) (f1 o1 f2 o2 : Value) (w : World) (hu : ExeAt w f1 o1 x) (hv : ExeAt w f2 o2 x) :
    Calls Try.prog 17 #[.agg #[f1, o1], .agg #[f2, o2]] w fun e w' => e = .returned (.bool true) ∧ Below w.heap.size w w' := by
  have HU : Hid (ExeAt w f1 o1 x ∧ ExeAt w f2 o2 x) := ⟨hu, hv⟩
  clear hu hv
  go_enter Try.func17, Try.ntmps17
  go_wp2_with fail
  refine (sameInts_any x.from' h1 f1 f2 _ (HU.out.1.f.keep (below_two _ _ _)) (HU.out.2.f.keep (below_two _ _ _))).mono ?_
  rintro e w3 ⟨rfl, hb3⟩
  have e0 := keep_cell hb3 (b := w.heap.size) (off := 1) (u := o1) (by simp)
  have e1 := keep_cell hb3 (b := w.heap.size + 1) (off := 1) (u := o2) (by simp)
  have hbw := below_more (below_two _ _ _) hb3
  clear hb3
  go_wp2_with fail
  refine (sameLists_any x.order h2 h3 o1 o2 _ (HU.out.1.o.keep hbw) (HU.out.2.o.keep hbw)).mono ?_
  rintro e w4 ⟨rfl, hb4⟩
  go_wp2_with fail
  go_ret
  exact ⟨rfl, below_more hbw hb4⟩

end Go.Proofs.Ytbmlmplbhgahpaa
