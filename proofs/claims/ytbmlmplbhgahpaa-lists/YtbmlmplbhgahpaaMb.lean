import Derived.Test.YtbmlmplbhgahpaaLj
import Derived.Deep.QuietTactic
import Derived.BigQuiet
namespace Go.Proofs.Ytbmlmplbhgahpaa
open Go.RowKit

set_option maxHeartbeats 1000000 in
theorem sameEvents_any (E : List Evt) (hE : E.length ≤ 96) (u v : Value) (w : World) (hu : Ev4At w u E) (hv : Ev4At w v E) :
    Calls Try.prog 12 #[u, v] w fun e w' => e = .returned (.bool true) ∧ Below w.heap.size w w' := by
  obtain ⟨ao, b, off, cap, hv1, ha, _, hc⟩ := hu
  obtain ⟨ao2, b2, off2, cap2, hv2, ha2, _, hc2⟩ := hv
  subst hv1 hv2
  have HC : Hid ((∀ k x, E[k]? = some x → Ev4C w b (off + k * 4) x) ∧ (∀ k x, E[k]? = some x → Ev4C w b2 (off2 + k * 4) x)) := ⟨hc, hc2⟩
  clear hc hc2
  have k0 : ((E.length : Int) != (E.length : Int)) = false := by simp
  go_enter Try.func12, Try.ntmps12
  go_wp2_with fail
  go_loopw [5] (fun i wr => ∃ k : Nat, k ≤ E.length ∧ i = .int .i64 k ∧ Below w.heap.size w wr) (fun i _ => E.length - (intOf i).toNat)
  case atStart => exact ⟨0, Nat.zero_le _, rfl, Below.refl _ _⟩
  case round =>
    obtain ⟨k, hk, rfl, hb⟩ := hrel
    by_cases hlt : k < E.length
    · obtain ⟨x, hx⟩ := get_of_lt hlt
      obtain rfl := ha (ne_nil hlt)
      obtain rfl := ha2 (ne_nil hlt)
      obtain ⟨c0, c1, c2, c3⟩ := ev4C_keeps _ _ _ _ _ hb (HC.out.1 k x hx)
      obtain ⟨d0, d1, d2, d3⟩ := ev4C_keeps _ _ _ _ _ hb (HC.out.2 k x hx)
      have n0 : (x.thread != x.thread) = false := by simp
      have n1 : (x.place != x.place) = false := by simp
      have n2 : (x.kind != x.kind) = false := by simp
      have n3 : (x.loc != x.loc) = false := by simp
      have hkI : (k : Int) < (E.length : Int) := by omega
      clear hx
      go_wp2_with fail
      go_quiet (fail)
      go_wp2_with fail
      go_roundw
      case measure => simp [intOf]; omega
      case rel => exact ⟨k + 1, by omega, by go_num, below_drewN hb _⟩
    · go_wp2_with fail
      go_ret
      exact ⟨rfl, hb⟩

end Go.Proofs.Ytbmlmplbhgahpaa
