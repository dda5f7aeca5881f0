import Derived.Test.YtomijmikkbhgmaaT14
import Derived.Test.YtomijmikkbhgmaaOe
import Derived.Test.YtomijmikkbhgmaaT5
import Derived.Test.YtomijmikkbhgmaaT6
namespace Go.Proofs.Ytomijmikkbhgmaa
open Go.RowKit

set_option maxHeartbeats 2000000 in
theorem candR_any (T : List (List Ins)) (fa : Bool) (c : List Atm) (v vt vc : Value) (n : Int) (w : World) (h : TestAt w v T fa c vt vc) :
    Calls Try.prog 18 #[v, .int .i64 n] w fun e w' => ∃ vf vo, e = .returned (.tuple #[.agg #[vf, vo], .int .i64 (cErr T c n)]) ∧ ExeAt w' vf vo (cExe T c n) ∧ Below w.heap.size w w' := by
  have HT : Hid (TestAt w v T fa c vt vc) := h
  obtain ⟨hv, _, _⟩ := h
  subst hv
  have HZ : Hid (((chk T c).1 == 0) = true → sizeB T c = true ∧ sizeN (evsT T 0) ≤ 2000) := fun h => ⟨chk_zero h, chk_many_no h⟩
  have HE : Hid (cErr T c n = if (chk T c).1 == 0 then (if 0 ≤ n ∧ n < (sizeN (evsT T 0) : Int) then 0 else 6) else (chk T c).1) := rfl
  have HX : Hid (cExe T c n = if (chk T c).1 == 0 then (if 0 ≤ n ∧ n < (sizeN (evsT T 0) : Int) then exN (evsT T 0) n.toNat else ⟨[], []⟩) else ⟨[], []⟩) := rfl
  generalize hq : chk T c = q at HZ HE HX
  have HQ : Hid (chk T c = q) := hq
  clear hq
  generalize cErr T c n = er at HE
  generalize cExe T c n = ex at HX
  go_enter Try.func18, Try.ntmps18
  go_wp2_with fail
  refine (checkR_any T fa c _ vt vc _ (HT.out.keep (below_two _ _ _))).mono ?_
  rw [HQ.out]
  rintro e w3 ⟨rfl, hb3⟩
  simp only [World.size_alloc] at hb3
  obtain ⟨g0, g1, g2, d0, d1, f0, f1, s2, s3⟩ := own5 hb3
  have hbw3 : Below w.heap.size w w3 := (below_two _ _ _).trans (hb3.mono (by omega))
  have HNC : Hid (∀ o z, w3.cell? ⟨w.heap.size + 1, o, none⟩ = some z → z = .slice none 0 0 ∧ o < 2) := nil_cells hb3
  clear hb3
  cases hz : q.1 == 0
  · have hz2 : (q.1 != 0) = true := by simp [bne, hz]
    have HE2 : Hid (er = q.1) := HE.out.trans (by rw [hz]; rfl)
    have HX2 : Hid (ex = ⟨[], []⟩) := HX.out.trans (by rw [hz]; rfl)
    clear HE HX
    go_wp2_with fail
    refine bodyPost_ret (v := .tuple #[.agg #[.slice none 0 0, .slice none 0 0], .int .i64 q.1]) (by simp [results, Try.results18, go_sem, *]) rfl ⟨_, _, by rw [HE2.out], by rw [HX2.out]; exact exe_nil _, ?_⟩
    exact (hbw3.setCell (by simp) _).setCell (by simp) _
  · have hz2 : (q.1 != 0) = false := by simp [bne, hz]
    obtain ⟨hsb, hN⟩ := HZ.out hz
    obtain ⟨h2, hL, _⟩ := sizeB_parts hsb
    have HL : Hid (lensB T = true) := hL
    have hEl : (evsT T 0).length ≤ 96 := by have := evsT_len T 0 HL.out; omega
    have HE2 : Hid (er = if 0 ≤ n ∧ n < (sizeN (evsT T 0) : Int) then 0 else 6) := HE.out.trans (by rw [hz]; rfl)
    have HX2 : Hid (ex = if 0 ≤ n ∧ n < (sizeN (evsT T 0) : Int) then exN (evsT T 0) n.toNat else ⟨[], []⟩) := HX.out.trans (by rw [hz]; rfl)
    clear HE HX hL hsb
    go_wp2_with fail
    refine (events_any T fa c _ vt vc _ (HT.out.keep hbw3) h2 HL.out).mono ?_
    generalize evsT T 0 = E at hEl hN HE2 HX2
    rintro e w5 ⟨u, rfl, hu, k5⟩
    have hbw5 := below_more hbw3 k5
    have HNC5 : Hid (∀ o z, w5.cell? ⟨w.heap.size + 1, o, none⟩ = some z → z = .slice none 0 0 ∧ o < 2) := fun o z hz => HNC.out o z (by rw [← k5.cell (p := ⟨w.heap.size + 1, o, none⟩) s3]; exact hz)
    replace d0 := keep_cell k5 d0
    replace d1 := keep_cell k5 d1
    replace f0 := (k5.frozen (p := ⟨w.heap.size + 1, 0, none⟩) s3).trans f0
    replace f1 := (k5.frozen (p := ⟨w.heap.size + 1, 1, none⟩) s3).trans f1
    have s5 : w.heap.size + 1 < w5.heap.size := by have := k5.size; omega
    clear k5 HNC g0 g1 g2 s3
    go_wp2_with fail
    refine (candidates_any E hEl u _ hu hN).mono ?_
    have hXl : (exs E).length = sizeN E := exs_len E
    have HXA : Hid (∀ k, k < sizeN E → (exs E)[k]? = some (exN E k)) := fun k hk => exs_at E k hk
    generalize exs E = XS at hXl HXA
    rintro e w6 ⟨u8, rfl, hu8, hb6⟩
    obtain ⟨ao8, b8, off8, cap8, hs8⟩ := hu8
    have hv8 := hs8.hv
    rw [hXl] at hv8
    subst hv8
    have HS8 : Hid (SlAt w6 2 XC (.slice ao8 (sizeN E) cap8) XS ao8 b8 off8 cap8) := hs8
    have HNC6 : Hid (∀ o z, w6.cell? ⟨w.heap.size + 1, o, none⟩ = some z → z = .slice none 0 0 ∧ o < 2) := fun o z hz => HNC5.out o z (by rw [← hb6.cell (p := ⟨w.heap.size + 1, o, none⟩) s5]; exact hz)
    have hbw6 := below_more hbw5 hb6
    replace d0 := keep_cell hb6 d0
    replace d1 := keep_cell hb6 d1
    replace f0 := (hb6.frozen (p := ⟨w.heap.size + 1, 0, none⟩) s5).trans f0
    replace f1 := (hb6.frozen (p := ⟨w.heap.size + 1, 1, none⟩) s5).trans f1
    have s6 : w.heap.size + 1 < w6.heap.size := by have := hb6.size; omega
    have HXL : Hid (XS.length = sizeN E) := hXl
    generalize hSN : sizeN E = S at HE2 HX2 hN HXA HS8 HXL
    clear hs8 hb6 HNC5 s5 hXl hSN
    by_cases hn : 0 ≤ n ∧ n < (S : Int)
    · obtain ⟨n', hn'⟩ := Int.eq_ofNat_of_zero_le hn.1
      subst hn'
      have HE3 : Hid (er = 0) := HE2.out.trans (if_pos hn)
      have HX3 : Hid (ex = exN E n') := HX2.out.trans (by rw [if_pos hn]; simp)
      have hlt : n' < S := by omega
      have hnI : (n' : Int) < (S : Int) := by omega
      obtain ⟨vf, vo, c0, c1, hxc⟩ := HS8.out.hc n' _ (HXA.out n' hlt)
      have hx := hxc.at'
      have ha8 := HS8.out.ha (by intro h0; have := HXL.out; rw [h0] at this; simp at this; omega)
      subst ha8
      obtain ⟨aof, cf, hff⟩ := hx.f.form
      obtain ⟨aoo, bo, oo, co, hso⟩ := hx.o
      have hfo := hso.hv
      subst hff hfo
      have HXX : Hid (ExeAt w6 (.slice aof (exN E n').from'.length cf) (.slice aoo (exN E n').order.length co) (exN E n')) := hx
      generalize hl1 : (exN E n').from'.length = l1 at HXX c0
      generalize hl2 : (exN E n').order.length = l2 at HXX c1
      have m8 := World.block_lt_of_cell? _ _ c0
      clear HE2 HX2 hn hx hxc hso hl1 hl2
      go_wp2_with fail
      refine bodyPost_ret (v := .tuple #[.agg #[.slice aof l1 cf, .slice aoo l2 co], .int .i64 0]) (by simp [results, Try.results18, go_sem, *]) rfl ⟨_, _, by rw [HE3.out], ?_, ?_⟩
      · rw [HX3.out]
        exact exe_store HXX.out rfl HNC6.out (fun b hb => by rw [Below.heap_setCell _ _ _ _ hb, Below.heap_setCell _ _ _ _ hb])
      · exact (hbw6.setCell (by simp) _).setCell (by simp) _
    · have HE3 : Hid (er = 6) := HE2.out.trans (if_neg hn)
      have HX3 : Hid (ex = ⟨[], []⟩) := HX2.out.trans (if_neg hn)
      clear HE2 HX2
      by_cases hneg : n < 0
      · clear hn
        go_wp2_with fail
        refine bodyPost_ret (v := .tuple #[.agg #[.slice none 0 0, .slice none 0 0], .int .i64 6]) (by simp [results, Try.results18, go_sem, *]) rfl ⟨_, _, by rw [HE3.out], by rw [HX3.out]; exact exe_nil _, ?_⟩
        exact (hbw6.setCell (by simp) _).setCell (by simp) _
      · have hge : (S : Int) ≤ n := by omega
        clear hn
        go_wp2_with fail
        refine bodyPost_ret (v := .tuple #[.agg #[.slice none 0 0, .slice none 0 0], .int .i64 6]) (by simp [results, Try.results18, go_sem, *]) rfl ⟨_, _, by rw [HE3.out], by rw [HX3.out]; exact exe_nil _, ?_⟩
        exact (hbw6.setCell (by simp) _).setCell (by simp) _

end Go.Proofs.Ytomijmikkbhgmaa

namespace Go.Proofs.Ytomijmikkbhgmaa
open Go.RowKit

theorem chF_len (n : Nat) (os : List (List Int)) (wt : Nat) : (chF n os wt).length = os.length := by
  induction os generalizing wt with
  | nil => rfl
  | cons o os ih => rw [chF, List.length_cons, ih, List.length_cons]
theorem chO_len (n m : Nat) (l : List Int) (wt : Nat) : (chO n m l wt).length = m := by
  induction m generalizing l wt with
  | zero => rfl
  | succ m ih => rw [chO, List.length_cons, ih]
theorem rdo_len (E R : List Evt) : (rdo E R).length ≤ R.length := by
  rw [rdo_eq E R 0, List.length_map]; exact rdsX_len R 0

theorem cExe_lens (T : List (List Ins)) (c : List Atm) (n : Int) : (cExe T c n).from'.length ≤ 100000 ∧ (cExe T c n).order.length ≤ 100000 ∧ ∀ y ∈ (cExe T c n).order, y.length ≤ 100000 := by
  unfold cExe
  cases hz : (chk T c).1 == 0
  · simp
  · obtain ⟨h2, hL, _⟩ := sizeB_parts (chk_zero hz)
    have hEl : (evsT T 0).length ≤ 96 := by have := evsT_len T 0 hL; omega
    simp only [if_true]
    split
    · have hr := rdo_len (evsT T 0) (evsT T 0)
      refine ⟨?_, ?_, ?_⟩
      · show (chF _ _ _).length ≤ _
        rw [chF_len]; omega
      · show List.length [_, _, _] ≤ _
        simp
      · intro y hy
        have hw := fun j => wrs_len (evsT T 0) 0 j
        have : y ∈ [chO n.toNat (wrs (evsT T 0) 0 0).length (wrs (evsT T 0) 0 0) (facL (evsT T 0) 0), chO n.toNat (wrs (evsT T 0) 0 1).length (wrs (evsT T 0) 0 1) (facL (evsT T 0) 1), chO n.toNat (wrs (evsT T 0) 0 2).length (wrs (evsT T 0) 0 2) (facL (evsT T 0) 2)] := hy
        have h0 := hw 0; have h1 := hw 1; have h2 := hw 2
        simp only [List.mem_cons, List.not_mem_nil, or_false] at this
        rcases this with rfl | rfl | rfl
        all_goals rw [chO_len]; omega
    · simp

set_option maxHeartbeats 1000000 in
theorem cands_any (T : List (List Ins)) (fa : Bool) (c : List Atm) (v vt vc : Value) (n : Int) (w : World) (h : TestAt w v T fa c vt vc) :
    Calls Try.prog 5 #[v, .int .i64 n] w fun e w' => e = .returned (.bool true) ∧ Below w.heap.size w w' := by
  have HT : Hid (TestAt w v T fa c vt vc) := h
  obtain ⟨hv, _, _⟩ := h
  subst hv
  have HLN : Hid ((cExe T c n).from'.length ≤ 100000 ∧ (cExe T c n).order.length ≤ 100000 ∧ ∀ y ∈ (cExe T c n).order, y.length ≤ 100000) := cExe_lens T c n
  generalize hex : cExe T c n = ex at HLN
  have HEX : Hid (cExe T c n = ex) := hex
  generalize her : cErr T c n = er
  have HER : Hid (cErr T c n = er) := her
  clear hex her
  go_enter Try.func5, Try.ntmps5
  go_wp2_with fail
  refine (copy_any T fa c _ vt vc _ (HT.out.keep (below_alloc _ _))).mono ?_
  rintro e w1 ⟨vt1, vc1, rfl, ht1, hb1⟩
  go_wp2_with fail
  refine (candP_any T fa c _ vt1 vc1 n _ ht1).mono ?_
  rw [HEX.out, HER.out]
  rintro e w2 ⟨f1, o1, rfl, hx1, hb2⟩
  have hb12 := below_more hb1 hb2
  have e0 := keep_cell hb12 (b := w.heap.size) (off := 0) (u := vt) (by simp)
  have e1 := keep_cell hb12 (b := w.heap.size) (off := 1) (u := .bool fa) (by simp)
  have e2 := keep_cell hb12 (b := w.heap.size) (off := 2) (u := vc) (by simp)
  have hbw2 := below_more (below_alloc _ _) hb12
  have m2 := World.block_lt_of_cell? _ _ e0
  obtain ⟨aof, cf, hff⟩ := hx1.f.form
  obtain ⟨aoo, bo, oo, co, hso⟩ := hx1.o
  have hfo := hso.hv
  subst hff hfo
  have HX1 : Hid (ExeAt w2 (.slice aof ex.from'.length cf) (.slice aoo ex.order.length co) ex) := hx1
  generalize ex.from'.length = l1 at HX1 ⊢
  generalize ex.order.length = l2 at HX1 ⊢
  clear hb1 hb2 hb12 ht1 hx1 hso
  go_wp2_with fail
  refine (candR_any T fa c _ vt vc n _ (HT.out.keep (hbw2.alloc hbw2.size _))).mono ?_
  rw [HEX.out, HER.out]
  rintro e w3 ⟨f3, o3, rfl, hx3, hb3⟩
  have k3 := below_more (below_alloc w2 _) hb3
  have e5 := keep_cell hb3 (b := w2.heap.size) (off := 0) (u := .slice aof l1 cf) (by simp)
  have e6 := keep_cell hb3 (b := w2.heap.size) (off := 1) (u := .slice aoo l2 co) (by simp)
  have m3 := World.block_lt_of_cell? _ _ e5
  have hbw3 := below_more hbw2 k3
  obtain ⟨aof3, cf3, hff⟩ := hx3.f.form
  obtain ⟨aoo3, bo3, oo3, co3, hso⟩ := hx3.o
  have hfo := hso.hv
  subst hff hfo
  have HX3 : Hid (ExeAt w3 (.slice aof l1 cf) (.slice aoo l2 co) ex ∧ ExeAt w3 (.slice aof3 ex.from'.length cf3) (.slice aoo3 ex.order.length co3) ex) := ⟨HX1.out.keep k3, hx3⟩
  generalize ex.from'.length = l3 at HX3 ⊢
  generalize ex.order.length = l4 at HX3 ⊢
  clear hb3 k3 hx3 hso HX1 e0 e1 e2
  go_wp2_with fail
  refine (sameExec_any ex HLN.out.1 HLN.out.2.1 HLN.out.2.2 _ _ _ _ _ (HX3.out.1.keep (below_alloc _ _)) (HX3.out.2.keep (below_alloc _ _))).mono ?_
  rintro e w4 ⟨rfl, hb4⟩
  have k1 : (er == er) = true := by simp
  go_wp2_with fail
  go_ret
  exact ⟨rfl, below_more (hbw3.alloc hbw3.size _) hb4⟩

end Go.Proofs.Ytomijmikkbhgmaa
