import Derived.Test.YtomijmikkbhgmaaT33
import Derived.Test.YtomijmikkbhgmaaLt
import Derived.Deep.CutRange
import Derived.Deep.RegionWith
namespace Go.Proofs.Ytomijmikkbhgmaa
open Go.RowKit

set_option maxRecDepth 20000 in
set_option maxHeartbeats 2000000 in
theorem judged_any (T : List (List Ins)) (fa : Bool) (c : List Atm) (vt vc : Value) (x : Exe) (hfit : XFits x) (vf vo : Value) (w : World) (h : TestAt w (.agg #[vt, .bool fa, vc]) T fa c vt vc) (hx : ExeC w vf vo x) :
    Calls Try.prog 21 #[.agg #[vt, .bool fa, vc], .agg #[vf, vo]] w fun e w' => e = .returned (.bool true) ∧ Below w.heap.size w w' := by
  have HC1 : Hid (∀ w', Below w.heap.size w w' → Calls Try.prog 10 #[.agg #[vt, .bool fa, vc]] w' fun e w'' => ∃ vt' vc', e = .returned (.agg #[vt', .bool fa, vc']) ∧ Hid (TestAt w'' (.agg #[vt', .bool fa, vc']) T fa c vt' vc') ∧ Below w'.heap.size w' w'') := fun w' hb => copy_any T fa c _ vt vc w' (h.keep hb)
  have HC2 : Hid (∀ w', Below w.heap.size w w' → Calls Try.prog 47 #[.agg #[vf, vo]] w' fun e w'' => ∃ vf' vo', e = .returned (.agg #[vf', vo']) ∧ Hid (ExeAt w'' vf' vo' x) ∧ Below w'.heap.size w' w'') := fun w' hb => copied_any x hfit vf vo w' (hx.at'.keep hb)
  have HC3 : Hid (∀ w' vt' vc' vf' vo', TestAt w' (.agg #[vt', .bool fa, vc']) T fa c vt' vc' → ExeAt w' vf' vo' x → Calls Try.prog 46 #[.agg #[vt', .bool fa, vc'], .agg #[vf', vo']] w' fun e w'' => ∃ r er : Int, e = .returned (.tuple #[.int .i64 r, .int .i64 er]) ∧ Hid (JOut T c x r er) ∧ Below w'.heap.size w' w'') := fun w' vt' vc' vf' vo' ht hx => judgeP_any T fa c vt' vc' x vf' vo' w' ht hx
  have HC4 : Hid (∀ w', Below w.heap.size w w' → Calls Try.prog 48 #[.agg #[vt, .bool fa, vc], .agg #[vf, vo]] w' fun e w'' => ∃ r er : Int, e = .returned (.tuple #[.int .i64 r, .int .i64 er]) ∧ Hid (JOut T c x r er) ∧ Below w'.heap.size w' w'') := fun w' hb => judgeR_any T fa c vt vc x vf vo w' (h.keep hb) (hx.keep hb)
  have HONE : Hid (∀ r er r' er', JOut T c x r er → JOut T c x r' er' → r = r' ∧ er = er') := fun _ _ _ _ h k => h.one k
  generalize JOut T c x = J at HC3 HC4 HONE
  obtain ⟨aof, capf, hvf⟩ := hx.f.form
  obtain ⟨aoo, bo, offo, capo, hso⟩ := hx.o
  have hvo := hso.hv
  subst hvf hvo
  obtain ⟨ht0, aot, bt, offt, capt, htv, _⟩ := h.ht.opened
  obtain ⟨hc0, aoc, bc, offc, capc, hsc⟩ := h.hc
  have hcv := hsc.hv
  subst htv hcv
  clear hso hx h hsc
  go_enter Try.func21, Try.ntmps21
  go_upto_region 1 with fail
  have hba := below_two w (.cells #[.slice aot T.length capt, .bool fa, .slice aoc c.length capc] 25) (.cells #[.slice aof x.from'.length capf, .slice aoo x.order.length capo] 40)
  have HTX : Hid (∀ w', Below (w.heap.size + 1 + 1) ((w.alloc (.cells #[.slice aot T.length capt, .bool fa, .slice aoc c.length capc] 25)).alloc (.cells #[.slice aof x.from'.length capf, .slice aoo x.order.length capo] 40)) w' → w'.cell? ⟨w.heap.size, 0, none⟩ = some (.slice aot T.length capt) ∧ w'.cell? ⟨w.heap.size, 1, none⟩ = some (.bool fa) ∧ w'.cell? ⟨w.heap.size, 2, none⟩ = some (.slice aoc c.length capc) ∧ w'.cell? ⟨w.heap.size + 1, 0, none⟩ = some (.slice aof x.from'.length capf) ∧ w'.cell? ⟨w.heap.size + 1, 1, none⟩ = some (.slice aoo x.order.length capo)) := fun w' hb => by
    have h1 := hb.cell (p := ⟨w.heap.size, 0, none⟩) (by simp; omega)
    have h2 := hb.cell (p := ⟨w.heap.size, 1, none⟩) (by simp; omega)
    have h3 := hb.cell (p := ⟨w.heap.size, 2, none⟩) (by simp; omega)
    have h4 := hb.cell (p := ⟨w.heap.size + 1, 0, none⟩) (by simp)
    have h5 := hb.cell (p := ⟨w.heap.size + 1, 1, none⟩) (by simp)
    exact ⟨h1.trans (by simp), h2.trans (by simp), h3.trans (by simp), h4.trans (by simp), h5.trans (by simp)⟩
  have hsW : ((w.alloc (.cells #[.slice aot T.length capt, .bool fa, .slice aoc c.length capc] 25)).alloc (.cells #[.slice aof x.from'.length capf, .slice aoo x.order.length capo] 40)).heap.size = w.heap.size + 1 + 1 := by simp
  generalize (w.alloc (.cells #[.slice aot T.length capt, .bool fa, .slice aoc c.length capc] 25)).alloc (.cells #[.slice aof x.from'.length capf, .slice aoo x.order.length capo] 40) = W at hba HTX hsW ⊢
  rw [← hsW] at HTX
  obtain ⟨t0, t1, t2, x0, x1⟩ := HTX.out W (Below.refl _ _)
  clear hsW
  go_cut [5, 6] from 9 (fun j e wc => ∃ r er : Int, j = .int .i64 r ∧ e = .int .i64 er ∧ Hid (J r er) ∧ Below W.heap.size W wc)
  case first =>
    go_region_with (first
      | (go_at_call 10; refine (HC1.out _ hba.drew).mono ?_; rintro e w3 ⟨vt3, vc3, rfl, ht3, hb3⟩; have hbW3 := below_more (Below.refl W.heap.size W).drew hb3; obtain ⟨_, _, _, x03, x13⟩ := HTX.out w3 hbW3)
      | (go_at_call 47; refine (HC2.out _ (below_more hba hbW3)).mono ?_; rintro e w4 ⟨vf4, vo4, rfl, hx4, hb4⟩; have hbW4 := below_more hbW3 hb4)
      | (go_at_call 46; refine (HC3.out _ vt3 vc3 vf4 vo4 (ht3.out.keep hb4) hx4.out).mono ?_; rintro e w5 ⟨r, er, rfl, hj, hb5⟩; have hbW5 := below_more hbW4 hb5))
    all_goals
      go_wp2_with fail
      go_meet
      case rel => exact ⟨r, er, rfl, rfl, hj.out, hbW5⟩
  case rest =>
    obtain ⟨r, er, rfl, rfl, hj, hbc⟩ := hcut
    clear t0 t1 t2 x0 x1
    obtain ⟨t0, t1, t2, x0, x1⟩ := HTX.out wc hbc
    have HJ := hj
    clear hj
    go_wp2_with fail
    refine (HC4.out _ (below_more hba hbc)).mono ?_
    rintro e w6 ⟨r', er', rfl, hj', hb6⟩
    obtain ⟨e1, e2⟩ := HONE.out _ _ _ _ HJ.out hj'.out
    subst e1 e2
    have k1 : (r == r) = true := by simp
    have k2 : (er == er) = true := by simp
    clear hj' t0 t1 t2 x0 x1
    go_wp2_with fail
    go_ret
    exact ⟨rfl, below_more (below_more hba hbc) hb6⟩

end Go.Proofs.Ytomijmikkbhgmaa

namespace Go.Proofs.Ytomijmikkbhgmaa
open Go.RowKit

set_option maxHeartbeats 1000000 in
theorem judges_any (T : List (List Ins)) (fa : Bool) (c : List Atm) (vt vc : Value) (x : Exe) (hfit : XFits x) (vf vo : Value) (w : World) (h : TestAt w (.agg #[vt, .bool fa, vc]) T fa c vt vc) (hx : ExeC w vf vo x) :
    Calls Try.prog 6 #[.agg #[vt, .bool fa, vc], .agg #[vf, vo]] w fun e w' => e = .returned (.bool true) ∧ Below w.heap.size w w' := by
  have HO : Hid (∀ w', Below w.heap.size w w' → Calls Try.prog 20 #[.agg #[vt, .bool fa, vc]] w' fun e w'' => e = .returned (.bool (opnB T)) ∧ Below w'.heap.size w' w'') := fun w' hb => open_any T fa c vt vc w' (h.keep hb)
  have HJ : Hid (∀ w', Below w.heap.size w w' → Calls Try.prog 21 #[.agg #[vt, .bool fa, vc], .agg #[vf, vo]] w' fun e w'' => e = .returned (.bool true) ∧ Below w'.heap.size w' w'') := fun w' hb => judged_any T fa c vt vc x hfit vf vo w' (h.keep hb) (hx.keep hb)
  generalize opnB T = B at HO
  obtain ⟨aof, capf, hvf⟩ := hx.f.form
  obtain ⟨aoo, bo, offo, capo, hso⟩ := hx.o
  have hvo := hso.hv
  subst hvf hvo
  obtain ⟨ht0, aot, bt, offt, capt, htv, _⟩ := h.ht.opened
  obtain ⟨hc0, aoc, bc, offc, capc, hsc⟩ := h.hc
  have hcv := hsc.hv
  subst htv hcv
  clear hso hx h hsc
  go_enter Try.func6, Try.ntmps6
  go_wp2_with fail
  have hba := below_two w (.cells #[.slice aot T.length capt, .bool fa, .slice aoc c.length capc] 25) (.cells #[.slice aof x.from'.length capf, .slice aoo x.order.length capo] 40)
  refine (HO.out _ hba).mono ?_
  rintro e w3 ⟨rfl, hb3⟩
  have hbw3 := below_more hba hb3
  have t0 := keep_cell hb3 (b := w.heap.size) (off := 0) (u := .slice aot T.length capt) (by simp)
  have t1 := keep_cell hb3 (b := w.heap.size) (off := 1) (u := .bool fa) (by simp)
  have t2 := keep_cell hb3 (b := w.heap.size) (off := 2) (u := .slice aoc c.length capc) (by simp)
  have x0 := keep_cell hb3 (b := w.heap.size + 1) (off := 0) (u := .slice aof x.from'.length capf) (by simp)
  have x1 := keep_cell hb3 (b := w.heap.size + 1) (off := 1) (u := .slice aoo x.order.length capo) (by simp)
  cases B
  · go_wp2_with fail
    go_ret
    exact ⟨rfl, hbw3⟩
  · go_wp2_with fail
    refine (HJ.out w3 hbw3).mono ?_
    rintro e w4 ⟨rfl, hb4⟩
    go_wp2_with fail
    go_ret
    exact ⟨rfl, below_more hbw3 hb4⟩

end Go.Proofs.Ytomijmikkbhgmaa
