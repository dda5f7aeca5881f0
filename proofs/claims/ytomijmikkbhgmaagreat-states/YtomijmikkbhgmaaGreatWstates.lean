import Derived.Test.YtomijmikkbhgmaaGreatT39
namespace Go.Proofs.YtomijmikkbhgmaaGreat
open Go.RowKit

set_option maxHeartbeats 1000000 in
theorem states_any (T : List (List Ins)) (fa : Bool) (c : List Atm) (vt vc : Value) (x : Exe) (hfit : XFits x) (vf vo : Value) (w : World) (h : TestAt w (.agg #[vt, .bool fa, vc]) T fa c vt vc) (hx : ExeC w vf vo x) :
    Calls Tryz.prog 3 #[.agg #[vt, .bool fa, vc], .agg #[vf, vo]] w fun e w' => e = .returned (.bool true) ∧ Below w.heap.size w w' := by
  have HO : Hid (∀ w', Below w.heap.size w w' → Calls Tryz.prog 9 #[.agg #[vt, .bool fa, vc]] w' fun e w'' => e = .returned (.bool (opnB T)) ∧ Below w'.heap.size w' w'') := fun w' hb => open_any T fa c vt vc w' (h.keep hb)
  have HJ : Hid (∀ w', Below w.heap.size w w' → Calls Tryz.prog 10 #[.agg #[vt, .bool fa, vc], .agg #[vf, vo]] w' fun e w'' => e = .returned (.bool true) ∧ Below w'.heap.size w' w'') := fun w' hb => stated_any T fa c vt vc x hfit vf vo w' (h.keep hb) (hx.keep hb)
  generalize opnB T = B at HO
  obtain ⟨aof, capf, hvf⟩ := hx.f.form
  obtain ⟨aoo, bo, offo, capo, hso⟩ := hx.o
  have hvo := hso.hv
  subst hvf hvo
  obtain ⟨ht0, aot, bt, offt, capt, htv, _⟩ := h.ht.opened
  obtain ⟨hc0, aoc, bc, offc, capc, hsc⟩ := h.hc
  have hcv := hsc.hv
  subst htv hcv
  clear hso hx h hsc
  go_enter Tryz.func3, Tryz.ntmps3
  go_wp2_with fail
  have hba := below_two w (.cells #[.slice aot T.length capt, .bool fa, .slice aoc c.length capc] 25) (.cells #[.slice aof x.from'.length capf, .slice aoo x.order.length capo] 29)
  refine (HO.out _ hba).mono ?_
  rintro e w3 ⟨rfl, hb3⟩
  have hbw3 := below_more hba hb3
  have t0 := keep_cell hb3 (b := w.heap.size) (off := 0) (u := .slice aot T.length capt) (by simp)
  have t1 := keep_cell hb3 (b := w.heap.size) (off := 1) (u := .bool fa) (by simp)
  have t2 := keep_cell hb3 (b := w.heap.size) (off := 2) (u := .slice aoc c.length capc) (by simp)
  have x0 := keep_cell hb3 (b := w.heap.size + 1) (off := 0) (u := .slice aof x.from'.length capf) (by simp)
  have x1 := keep_cell hb3 (b := w.heap.size + 1) (off := 1) (u := .slice aoo x.order.length capo) (by simp)
  cases B
  · go_wp2_with fail
    go_ret
    exact ⟨rfl, hbw3⟩
  · go_wp2_with fail
    refine (HJ.out w3 hbw3).mono ?_
    rintro e w4 ⟨rfl, hb4⟩
    go_wp2_with fail
    go_ret
    exact ⟨rfl, below_more hbw3 hb4⟩

end Go.Proofs.YtomijmikkbhgmaaGreat
