import Derived.Test.YtomijmikkbhgmaaGreatT39
namespace Go.Proofs.YtomijmikkbhgmaaGreat
open Go.RowKit

set_option maxHeartbeats 1000000 in
theorem graces_any (T : List (List Ins)) (fa : Bool) (c : List Atm) (vt vc : Value) (x : Exe) (hfit : XFits x) (vf vo : Value) (w : World) (h : TestAt w (.agg #[vt, .bool fa, vc]) T fa c vt vc) (hx : ExeC w vf vo x) :
    Calls Tryz.prog 6 #[.agg #[vt, .bool fa, vc], .agg #[vf, vo]] w fun e w' => e = .returned (.bool true) ∧ Below w.heap.size w w' := by
  have HJ : Hid (∀ w', Below w.heap.size w w' → Calls Tryz.prog 13 #[.agg #[vt, .bool fa, vc], .agg #[vf, vo]] w' fun e w'' => e = .returned (.bool true) ∧ Below w'.heap.size w' w'') := fun w' hb => judged_any T fa c vt vc x hfit vf vo w' (h.keep hb) (hx.keep hb)
  have HS : Hid (∀ w', Below w.heap.size w w' → Calls Tryz.prog 10 #[.agg #[vt, .bool fa, vc], .agg #[vf, vo]] w' fun e w'' => e = .returned (.bool true) ∧ Below w'.heap.size w' w'') := fun w' hb => stated_any T fa c vt vc x hfit vf vo w' (h.keep hb) (hx.keep hb)
  obtain ⟨aof, capf, hvf⟩ := hx.f.form
  obtain ⟨aoo, bo, offo, capo, hso⟩ := hx.o
  have hvo := hso.hv
  subst hvf hvo
  obtain ⟨ht0, aot, bt, offt, capt, htv, _⟩ := h.ht.opened
  obtain ⟨hc0, aoc, bc, offc, capc, hsc⟩ := h.hc
  have hcv := hsc.hv
  subst htv hcv
  clear hso hx h hsc
  go_enter Tryz.func6, Tryz.ntmps6
  go_wp2_with fail
  have hba := below_two w (.cells #[.slice aot T.length capt, .bool fa, .slice aoc c.length capc] 25) (.cells #[.slice aof x.from'.length capf, .slice aoo x.order.length capo] 29)
  refine (HJ.out _ hba).mono ?_
  rintro e w3 ⟨rfl, hb3⟩
  have hbw3 := below_more hba hb3
  have t0 := keep_cell hb3 (b := w.heap.size) (off := 0) (u := .slice aot T.length capt) (by simp)
  have t1 := keep_cell hb3 (b := w.heap.size) (off := 1) (u := .bool fa) (by simp)
  have t2 := keep_cell hb3 (b := w.heap.size) (off := 2) (u := .slice aoc c.length capc) (by simp)
  have x0 := keep_cell hb3 (b := w.heap.size + 1) (off := 0) (u := .slice aof x.from'.length capf) (by simp)
  have x1 := keep_cell hb3 (b := w.heap.size + 1) (off := 1) (u := .slice aoo x.order.length capo) (by simp)
  go_wp2_with fail
  refine (HS.out w3 hbw3).mono ?_
  rintro e w4 ⟨rfl, hb4⟩
  go_wp2_with fail
  go_ret
  exact ⟨rfl, below_more hbw3 hb4⟩

end Go.Proofs.YtomijmikkbhgmaaGreat
