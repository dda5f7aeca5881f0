import Derived.Test.YtbmlmplbhgahpaaLt
import Derived.Test.YtbmlmplbhgahpaaOa
import Derived.Test.YtbmlmplbhgahpaaOh
namespace Go.Proofs.Ytbmlmplbhgahpaa
open Go.RowKit

theorem chF_len (n : Nat) (os : List (List Int)) (wt : Nat) : (chF n os wt).length = os.length := by
  induction os generalizing wt with
  | nil => rfl
  | cons o os ih => rw [chF, List.length_cons, ih, List.length_cons]
theorem chO_len (n m : Nat) (l : List Int) (wt : Nat) : (chO n m l wt).length = m := by
  induction m generalizing l wt with
  | zero => rfl
  | succ m ih => rw [chO, List.length_cons, ih]
theorem rdo_len (E R : List Evt) : (rdo E R).length ≤ R.length := by
  rw [rdo_eq E R 0, List.length_map]; exact rdsX_len R 0

theorem cExe_lens (T : List (List Ins)) (c : List Atm) (n : Int) : (cExe T c n).from'.length ≤ 100000 ∧ (cExe T c n).order.length ≤ 100000 ∧ ∀ y ∈ (cExe T c n).order, y.length ≤ 100000 := by
  unfold cExe
  cases hz : (chk T c).1 == 0
  · simp
  · obtain ⟨h2, hL, _⟩ := sizeB_parts (chk_zero hz)
    have hEl : (evsT T 0).length ≤ 96 := by have := evsT_len T 0 hL; omega
    simp only [if_true]
    split
    · have hr := rdo_len (evsT T 0) (evsT T 0)
      refine ⟨?_, ?_, ?_⟩
      · show (chF _ _ _).length ≤ _
        rw [chF_len]; omega
      · show List.length [_, _, _] ≤ _
        simp
      · intro y hy
        have hw := fun j => wrs_len (evsT T 0) 0 j
        have : y ∈ [chO n.toNat (wrs (evsT T 0) 0 0).length (wrs (evsT T 0) 0 0) (facL (evsT T 0) 0), chO n.toNat (wrs (evsT T 0) 0 1).length (wrs (evsT T 0) 0 1) (facL (evsT T 0) 1), chO n.toNat (wrs (evsT T 0) 0 2).length (wrs (evsT T 0) 0 2) (facL (evsT T 0) 2)] := hy
        have h0 := hw 0; have h1 := hw 1; have h2 := hw 2
        simp only [List.mem_cons, List.not_mem_nil, or_false] at this
        rcases this with rfl | rfl | rfl
        all_goals rw [chO_len]; omega
    · simp

set_option maxHeartbeats 1000000 in
theorem cands_any (T : List (List Ins)) (fa : Bool) (c : List Atm) (v vt vc : Value) (n : Int) (w : World) (h : TestAt w v T fa c vt vc) :
    Calls Try.prog 5 #[v, .int .i64 n] w fun e w' => e = .returned (.bool true) ∧ Below w.heap.size w w' := by
  have HT : Hid (TestAt w v T fa c vt vc) := h
  obtain ⟨hv, _, _⟩ := h
  subst hv
  have HLN : Hid ((cExe T c n).from'.length ≤ 100000 ∧ (cExe T c n).order.length ≤ 100000 ∧ ∀ y ∈ (cExe T c n).order, y.length ≤ 100000) := cExe_lens T c n
  generalize hex : cExe T c n = ex at HLN
  have HEX : Hid (cExe T c n = ex) := hex
  generalize her : cErr T c n = er
  have HER : Hid (cErr T c n = er) := her
  clear hex her
  go_enter Try.func5, Try.ntmps5
  go_wp2_with fail
  refine (copy_any T fa c _ vt vc _ (HT.out.keep (below_alloc _ _))).mono ?_
  rintro e w1 ⟨vt1, vc1, rfl, ht1, hb1⟩
  go_wp2_with fail
  refine (candP_any T fa c _ vt1 vc1 n _ ht1).mono ?_
  rw [HEX.out, HER.out]
  rintro e w2 ⟨f1, o1, rfl, hx1, hb2⟩
  have hb12 := below_more hb1 hb2
  have e0 := keep_cell hb12 (b := w.heap.size) (off := 0) (u := vt) (by simp)
  have e1 := keep_cell hb12 (b := w.heap.size) (off := 1) (u := .bool fa) (by simp)
  have e2 := keep_cell hb12 (b := w.heap.size) (off := 2) (u := vc) (by simp)
  have hbw2 := below_more (below_alloc _ _) hb12
  have m2 := World.block_lt_of_cell? _ _ e0
  obtain ⟨aof, cf, hff⟩ := hx1.f.form
  obtain ⟨aoo, bo, oo, co, hso⟩ := hx1.o
  have hfo := hso.hv
  subst hff hfo
  have HX1 : Hid (ExeAt w2 (.slice aof ex.from'.length cf) (.slice aoo ex.order.length co) ex) := hx1
  generalize ex.from'.length = l1 at HX1 ⊢
  generalize ex.order.length = l2 at HX1 ⊢
  clear hb1 hb2 hb12 ht1 hx1 hso
  go_wp2_with fail
  refine (candR_any T fa c _ vt vc n _ (HT.out.keep (hbw2.alloc hbw2.size _))).mono ?_
  rw [HEX.out, HER.out]
  rintro e w3 ⟨f3, o3, rfl, hx3, hb3⟩
  have k3 := below_more (below_alloc w2 _) hb3
  have e5 := keep_cell hb3 (b := w2.heap.size) (off := 0) (u := .slice aof l1 cf) (by simp)
  have e6 := keep_cell hb3 (b := w2.heap.size) (off := 1) (u := .slice aoo l2 co) (by simp)
  have m3 := World.block_lt_of_cell? _ _ e5
  have hbw3 := below_more hbw2 k3
  obtain ⟨aof3, cf3, hff⟩ := hx3.f.form
  obtain ⟨aoo3, bo3, oo3, co3, hso⟩ := hx3.o
  have hfo := hso.hv
  subst hff hfo
  have HX3 : Hid (ExeAt w3 (.slice aof l1 cf) (.slice aoo l2 co) ex ∧ ExeAt w3 (.slice aof3 ex.from'.length cf3) (.slice aoo3 ex.order.length co3) ex) := ⟨HX1.out.keep k3, hx3⟩
  generalize ex.from'.length = l3 at HX3 ⊢
  generalize ex.order.length = l4 at HX3 ⊢
  clear hb3 k3 hx3 hso HX1 e0 e1 e2
  go_wp2_with fail
  refine (sameExec_any ex HLN.out.1 HLN.out.2.1 HLN.out.2.2 _ _ _ _ _ (HX3.out.1.keep (below_alloc _ _)) (HX3.out.2.keep (below_alloc _ _))).mono ?_
  rintro e w4 ⟨rfl, hb4⟩
  have k1 : (er == er) = true := by simp
  go_wp2_with fail
  go_ret
  exact ⟨rfl, below_more (hbw3.alloc hbw3.size _) hb4⟩

end Go.Proofs.Ytbmlmplbhgahpaa
