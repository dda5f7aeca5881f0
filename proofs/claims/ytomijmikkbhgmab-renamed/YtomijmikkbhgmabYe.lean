import Derived.Test.YtomijmikkbhgmabT53
namespace Go.Proofs.Ytomijmikkbhgmab
open Go.RowKit

set_option maxRecDepth 20000 in
set_option maxHeartbeats 1000000 in
theorem renamedK_any (T : List (List Ins)) (fa : Bool) (c : List Atm) (n1 n2 n3 n4 : Int) (r1 : -9223372036854775808 ≤ n1 ∧ n1 < 9223372036854775808) (r2 : -9223372036854775808 ≤ n2 ∧ n2 < 9223372036854775808) (r3 : -9223372036854775808 ≤ n3 ∧ n3 < 9223372036854775808) (r4 : -9223372036854775808 ≤ n4 ∧ n4 < 9223372036854775808) (vt vc : Value) (w : World) (h : TestAt w (.agg #[vt, .bool fa, vc]) T fa c vt vc) :
    Calls Try.prog 6 #[.agg #[vt, .bool fa, vc], .int .i64 n1, .int .i64 n2, .int .i64 n3, .int .i64 n4] w fun e w' => e = .returned (.bool true) ∧ Below w.heap.size w w' := by
  have hout : ∀ w', Below w.heap.size w w' → Calls Try.prog 13 #[.agg #[vt, .bool fa, vc]] w' fun e w'' => ∃ u, e = .returned (.tuple #[u, .bool true]) ∧ KOut T c (alT T) w'' u ∧ Below w'.heap.size w' w'' := fun w' hb => outcomesK_any T fa c (alT T) (als_alB T (evsT T 0)) vt vc w' (h.keep hb)
  cases hz : (chk T c).1 == 0
  · have hne : (chk T c).1 ≠ 0 := by simpa using hz
    have HO : Hid (∀ w', Below w.heap.size w w' → Calls Try.prog 13 #[.agg #[vt, .bool fa, vc]] w' fun e w'' => e = .returned (.tuple #[.slice none 0 0, .bool true]) ∧ Below w'.heap.size w' w'') := fun w' hb => (hout w' hb).mono fun e w'' ⟨u, he, hk, hb'⟩ => by
      rcases hk with ⟨_, rfl⟩ | ⟨h1, _⟩
      · exact ⟨he, hb'⟩
      · exact absurd h1 hne
    obtain ⟨ht0, aot, bt, offt, capt, htv, _⟩ := h.ht.opened
    obtain ⟨hc0, aoc, bc, offc, capc, hsc⟩ := h.hc
    have hcv := hsc.hv
    subst htv hcv
    clear h hsc hout hz hne r1 r2 r3 r4
    have nq2 : ∀ (w : World) (n c n' c' : Nat), (binOp .eql 31 (.slice none n c) (.slice none n' c')).run Try.prog w = .ok (.bool true) w := fun w n c n' c' => Lib.run_eql_slice_nil w _ _ none n c n' c' Try.underlying31
    go_enter Try.func6, Try.ntmps6
    go_wp2_with fail
    have hba := below_alloc w (.cells #[.slice aot T.length capt, .bool fa, .slice aoc c.length capc] 25)
    refine (HO.out _ hba).mono ?_
    rintro e w3 ⟨rfl, hb3⟩
    have hbw3 := below_more hba hb3
    go_wp2_with fail
    go_ret
    exact ⟨rfl, hbw3⟩
  · have h0 : (chk T c).1 = 0 := by simpa using hz
    refine renamed_core T fa c hz n1 n2 n3 n4 r1 r2 r3 r4 vt vc w h (fun w' hb => (hout w' hb).mono fun e w'' ⟨u, he, hk, hb'⟩ => ?_)
    rcases hk with ⟨h1, _⟩ | ⟨_, h1⟩
    · exact absurd h0 h1
    · exact ⟨u, he, h1, hb'⟩

end Go.Proofs.Ytomijmikkbhgmab
