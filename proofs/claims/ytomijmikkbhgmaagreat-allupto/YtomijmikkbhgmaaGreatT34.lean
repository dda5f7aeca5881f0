import Derived.Test.YtomijmikkbhgmaaGreatT33
import Derived.Test.YtomijmikkbhgmaaGreatT31
import Derived.Test.YtomijmikkbhgmaaGreatT25
import Derived.Test.YtomijmikkbhgmaaGreatOe
namespace Go.Proofs.YtomijmikkbhgmaaGreat
open Go.RowKit

theorem idxA_at {n : Nat} {x : Atm} (h : atmB x n = true) : ((idxA n x : Nat) : Int) = if x.thread == -1 then 3 * (n : Int) + x.at' else 3 * x.thread + x.at' := by
  unfold idxA
  rcases atm_range h with ⟨h1, h2, h3⟩ | ⟨h1, h2, h3, h4⟩
  · rw [h1]; simp; omega
  · have : (x.thread == -1) = false := by simp; omega
    rw [this]; simp; omega
theorem idxA_lt {n : Nat} {x : Atm} (h : atmB x n = true) : idxA n x < 3 * n + 3 := by
  have := idxA_at h
  rcases atm_range h with ⟨h1, h2, h3⟩ | ⟨h1, h2, h3, h4⟩
  · rw [h1] at this; simp at this; omega
  · have h5 : (x.thread == -1) = false := by simp; omega
    rw [h5] at this; simp at this; omega

set_option maxRecDepth 20000 in
theorem placeOfS_any (n : Nat) (hn : n ≤ 4) (x : Atm) (h : atmB x n = true) (w : World) :
    Calls Tryz.prog 130 #[.int .i64 n, .int .i64 x.thread, .int .i64 x.at'] w fun e w' => e = .returned (.int .i64 (idxA n x : Nat)) ∧ Below w.heap.size w w' := by
  have hix := idxA_at h
  have hlt := idxA_lt h
  rcases atm_range h with ⟨h1, h2, h3⟩ | ⟨h1, h2, h3, h4⟩
  · have e0 : decide (x.thread < 0) = true := by simp; omega
    have e1 : (n : Int) * 3 + x.at' = ((idxA n x : Nat) : Int) := by rw [hix, h1]; simp; omega
    have e2 : IntKind.i64.wrap ((n : Int) * 3) = (n : Int) * 3 := by rw [IntKind.wrap_i64]; omega
    have e3 : IntKind.i64.wrap ((idxA n x : Nat) : Int) = ((idxA n x : Nat) : Int) := by rw [IntKind.wrap_i64]; omega
    have h10 : x.thread < 0 := by omega
    generalize idxA n x = ix at *
    clear hix h
    go_enter Tryz.func130, Tryz.ntmps130
    go_wp2_with fail
    go_ret
    exact ⟨rfl, Below.refl _ _⟩
  · have e1 : x.thread * 3 + x.at' = ((idxA n x : Nat) : Int) := by
      rw [hix]
      have h5 : (x.thread == -1) = false := by simp; omega
      rw [h5]; simp; omega
    have e2 : IntKind.i64.wrap (x.thread * 3) = x.thread * 3 := by rw [IntKind.wrap_i64]; omega
    have e3 : IntKind.i64.wrap ((idxA n x : Nat) : Int) = ((idxA n x : Nat) : Int) := by rw [IntKind.wrap_i64]; omega
    generalize idxA n x = ix at *
    clear hix h
    go_enter Tryz.func130, Tryz.ntmps130
    go_wp2_with fail
    go_ret
    exact ⟨rfl, Below.refl _ _⟩

set_option maxRecDepth 20000 in
set_option maxHeartbeats 2000000 in
theorem holdsP_any (T : List (List Ins)) (hT : T.length ≤ 4) (fa : Bool) (c : List Atm) (hc : AtmsOk T.length c) (vt vc : Value) (s : List Int) (hs : s.length = 3 * T.length + 3) (v : Value) (w : World) (h : TestAt w (.agg #[vt, .bool fa, vc]) T fa c vt vc) (hv : IntAt w v s) :
    Calls Tryz.prog 95 #[.agg #[vt, .bool fa, vc], v] w fun e w' => e = .returned (.bool (metB T.length c s)) ∧ Below w.heap.size w w' := by
  obtain ⟨ht0, aot, bt, offt, capt, htv, _⟩ := h.ht.opened
  obtain ⟨hc0, aoc, bc, offc, capc, hvc, hac, _, hcc⟩ := h.hc
  obtain ⟨ao, b, off, cap, hv1, ha, _, hcs⟩ := hv
  subst htv hvc hv1
  have HC : Hid (∀ k x, c[k]? = some x → AtmC w bc (offc + k * 3) x) := hcc
  have HS : Hid (∀ k x, s[k]? = some x → w.cell? ⟨b, off + k, none⟩ = some (.int .i64 x)) := fun k x hx => by
    have := hcs k x hx
    unfold IntC at this
    rw [Nat.mul_one] at this; exact this
  have HOK : Hid (AtmsOk T.length c ∧ s.length = 3 * T.length + 3) := ⟨hc, hs⟩
  have HPO : Hid (∀ (x : Atm) (w' : World), x ∈ c → Calls Tryz.prog 130 #[.int .i64 T.length, .int .i64 x.thread, .int .i64 x.at'] w' fun e w'' => e = .returned (.int .i64 (idxA T.length x : Nat)) ∧ Below w'.heap.size w' w'') := fun x w' hx => placeOfS_any T.length hT x (hc x hx) w'
  obtain rfl := ha (by intro h; rw [h] at hs; simp at hs)
  have HB : Hid (metB T.length c s = (c.drop 0).all fun a => s.getD (idxA T.length a) 0 == a.val) := rfl
  generalize metB T.length c s = B at HB ⊢
  have hsl : s.length ≤ 100 := by omega
  clear hcc hcs h hc hs ha
  go_enter Tryz.func95, Tryz.ntmps95
  go_wp2_with fail
  have hba := below_alloc w (.cells #[.slice aot T.length capt, .bool fa, .slice aoc c.length capc] 25)
  have HBX : Hid ((w.alloc (.cells #[.slice aot T.length capt, .bool fa, .slice aoc c.length capc] 25)).cell? ⟨w.heap.size, 0, none⟩ = some (.slice aot T.length capt) ∧ (w.alloc (.cells #[.slice aot T.length capt, .bool fa, .slice aoc c.length capc] 25)).cell? ⟨w.heap.size, 2, none⟩ = some (.slice aoc c.length capc)) := ⟨by simp, by simp⟩
  generalize w.alloc (.cells #[.slice aot T.length capt, .bool fa, .slice aoc c.length capc] 25) = W at hba HBX ⊢
  have t2 := HBX.out.2
  go_wp2_with fail
  clear t2
  go_loopw [11] (fun i wr => ∃ k : Nat, k ≤ c.length ∧ i = .int .i64 k ∧ Hid (B = (c.drop k).all fun a => s.getD (idxA T.length a) 0 == a.val) ∧ Below W.heap.size W wr) (fun i _ => c.length - (intOf i).toNat)
  case atStart => exact ⟨0, Nat.zero_le _, rfl, HB.out, Below.refl _ _⟩
  case round =>
    clear HB
    obtain ⟨k, hk, rfl, hn, hb⟩ := hrel
    have t0 := keep_cell hb HBX.out.1
    have hbw := below_more hba hb
    by_cases hlt : k < c.length
    · obtain ⟨x, hx⟩ := get_of_lt hlt
      obtain rfl := hac (ne_nil hlt)
      obtain ⟨c0, c1, c2⟩ := (atmC_keeps _ _ _ _ _ hbw (HC.out k x hx))
      have m0 := World.block_lt_of_cell? _ _ c0
      have m1 := World.block_lt_of_cell? _ _ t0
      simp only at m0 m1
      have hkI : (k : Int) < (c.length : Int) := by omega
      have hxm := List.mem_of_getElem? hx
      have hidx : idxA T.length x < s.length := by rw [HOK.out.2]; exact idxA_lt (HOK.out.1 x hxm)
      obtain ⟨y, hy⟩ := get_of_lt hidx
      have HN : Hid (B = ((y == x.val) && (c.drop (k + 1)).all fun a => s.getD (idxA T.length a) 0 == a.val)) := hn.out.trans (by rw [drop_cons hx, List.all_cons, List.getD, hy]; rfl)
      have s0 := keep_cell hbw (HS.out _ y hy)
      have ms0 := World.block_lt_of_cell? _ _ s0
      simp only at ms0
      have HP1 : Hid (∀ w', Calls Tryz.prog 130 #[.int .i64 T.length, .int .i64 x.thread, .int .i64 x.at'] w' fun e w'' => e = .returned (.int .i64 (idxA T.length x : Nat)) ∧ Below w'.heap.size w' w'') := fun w' => HPO.out x w' hxm
      generalize idxA T.length x = ix at *
      have hixI : (ix : Int) < (s.length : Int) := by omega
      have hix0 : decide ((ix : Int) < 0) = false := by simp
      have hix1 : decide ((s.length : Int) ≤ (ix : Int)) = false := by simp; omega
      have hix2 : decide (s.length ≤ ix) = false := by simp; omega
      clear hn hx hy hxm
      go_wp2_with fail
      refine (HP1.out _).mono ?_
      rintro e w5 ⟨rfl, hb5⟩
      have hba5 := below_alloc wr (.cells #[.int .i64 x.thread, .int .i64 x.at', .int .i64 x.val] 104)
      have hb15 := below_more hba5 hb5
      have a2 := keep_cell hb5 (b := wr.heap.size) (off := 2) (u := .int .i64 x.val) (by simp)
      replace s0 := keep_cell hb15 s0
      have hbW5 := below_more hb hb15
      clear c0 c1 c2 t0 hb5 hba5 hb15 hb
      generalize wr.heap.size = Bx at a2
      have g0 := grown_cell a2
      have g1 := grown_cell s0
      have hnw := grw_some w5
      clear a2 s0
      cases hyv : y == x.val
      · have hyv' : (y != x.val) = true := by simp [bne, hyv]
        have HM : Hid (B = false) := HN.out.trans (by rw [hyv]; rfl)
        go_wp2_with fail
        refine wp_region_grown (by kernel_rfl) (by kernel_rfl) ?_
        repeat (go_big_quiet_step (fail))
        refine wpQuiet_nil ?_
        intro w7 hw7
        obtain ⟨⟨w7', hb7⟩, rfl⟩ := hw7
        clear g0 g1
        go_wp2_with fail
        go_ret
        exact ⟨by rw [HM.out]; rfl, below_more hba (below_more hbW5 hb7)⟩
      · have hyv' : (y != x.val) = false := by simp [bne, hyv]
        have HM : Hid (B = (c.drop (k + 1)).all fun a => s.getD (idxA T.length a) 0 == a.val) := HN.out.trans (by rw [hyv, Bool.true_and])
        go_wp2_with fail
        refine wp_region_grown (by kernel_rfl) (by kernel_rfl) ?_
        repeat (go_big_quiet_step (fail))
        refine wpQuiet_nil ?_
        intro w7 hw7
        obtain ⟨⟨w7', hb7⟩, rfl⟩ := hw7
        clear g0 g1
        go_wp2_with fail
        go_roundw
        case measure => simp [intOf]; omega
        case rel => exact ⟨k + 1, by omega, by go_num, HM.out, below_more hbW5 hb7⟩
    · have HM : Hid (B = true) := hn.out.trans (by rw [drop_nil hlt]; rfl)
      have hkI : (c.length : Int) ≤ (k : Int) := by omega
      clear hn
      go_wp2_with fail
      go_ret
      exact ⟨by rw [HM.out]; rfl, hbw⟩

set_option maxRecDepth 20000 in
theorem named_any (g b : Nat) (w : World) :
    Calls Tryz.prog 96 #[.int .i64 g, .int .i64 b] w fun e w' => e = .returned (.int .i64 (if g == 0 then 0 else if b == 0 then 2 else 1)) ∧ Below w.heap.size w w' := by
  rcases Nat.eq_zero_or_pos g with hg | hg
  · subst hg
    go_enter Tryz.func96, Tryz.ntmps96
    go_wp2_with fail
    go_ret
    exact ⟨rfl, Below.refl _ _⟩
  · have hge : ((g : Int) == 0) = false := by simp; omega
    have hgn : (g == 0) = false := by simp; omega
    rw [hgn]
    rcases Nat.eq_zero_or_pos b with hb | hb
    · subst hb
      go_enter Tryz.func96, Tryz.ntmps96
      go_wp2_with fail
      go_ret
      exact ⟨rfl, Below.refl _ _⟩
    · have hbe : ((b : Int) == 0) = false := by simp; omega
      have hbn : (b == 0) = false := by simp; omega
      rw [hbn]
      go_enter Tryz.func96, Tryz.ntmps96
      go_wp2_with fail
      go_ret
      exact ⟨rfl, Below.refl _ _⟩

end Go.Proofs.YtomijmikkbhgmaaGreat

namespace Go.Proofs.YtomijmikkbhgmaaGreat
open Go.RowKit

set_option maxHeartbeats 2000000 in
theorem candR_any (T : List (List Ins)) (fa : Bool) (c : List Atm) (v vt vc : Value) (n : Int) (w : World) (h : TestAt w v T fa c vt vc) :
    Calls Tryz.prog 68 #[v, .int .i64 n] w fun e w' => ∃ vf vo, e = .returned (.tuple #[.agg #[vf, vo], .int .i64 (cErr T c n)]) ∧ ExeAt w' vf vo (cExe T c n) ∧ Below w.heap.size w w' := by
  have HT : Hid (TestAt w v T fa c vt vc) := h
  obtain ⟨hv, _, _⟩ := h
  subst hv
  have HZ : Hid (((chk T c).1 == 0) = true → sizeB T c = true ∧ sizeN (evsT T 0) ≤ 2000) := fun h => ⟨chk_zero h, chk_many_no h⟩
  have HE : Hid (cErr T c n = if (chk T c).1 == 0 then (if 0 ≤ n ∧ n < (sizeN (evsT T 0) : Int) then 0 else 6) else (chk T c).1) := rfl
  have HX : Hid (cExe T c n = if (chk T c).1 == 0 then (if 0 ≤ n ∧ n < (sizeN (evsT T 0) : Int) then exN (evsT T 0) n.toNat else ⟨[], []⟩) else ⟨[], []⟩) := rfl
  generalize hq : chk T c = q at HZ HE HX
  have HQ : Hid (chk T c = q) := hq
  clear hq
  generalize cErr T c n = er at HE
  generalize cExe T c n = ex at HX
  go_enter Tryz.func68, Tryz.ntmps68
  go_wp2_with fail
  refine (checkR_any T fa c _ vt vc _ (HT.out.keep (below_two _ _ _))).mono ?_
  rw [HQ.out]
  rintro e w3 ⟨rfl, hb3⟩
  simp only [World.size_alloc] at hb3
  obtain ⟨g0, g1, g2, d0, d1, f0, f1, s2, s3⟩ := own5 hb3
  have hbw3 : Below w.heap.size w w3 := (below_two _ _ _).trans (hb3.mono (by omega))
  have HNC : Hid (∀ o z, w3.cell? ⟨w.heap.size + 1, o, none⟩ = some z → z = .slice none 0 0 ∧ o < 2) := nil_cells hb3
  clear hb3
  cases hz : q.1 == 0
  · have hz2 : (q.1 != 0) = true := by simp [bne, hz]
    have HE2 : Hid (er = q.1) := HE.out.trans (by rw [hz]; rfl)
    have HX2 : Hid (ex = ⟨[], []⟩) := HX.out.trans (by rw [hz]; rfl)
    clear HE HX
    go_wp2_with fail
    refine bodyPost_ret (v := .tuple #[.agg #[.slice none 0 0, .slice none 0 0], .int .i64 q.1]) (by simp [results, Tryz.results68, go_sem, *]) rfl ⟨_, _, by rw [HE2.out], by rw [HX2.out]; exact exe_nil _, ?_⟩
    exact (hbw3.setCell (by simp) _).setCell (by simp) _
  · have hz2 : (q.1 != 0) = false := by simp [bne, hz]
    obtain ⟨hsb, hN⟩ := HZ.out hz
    obtain ⟨h2, hL, _⟩ := sizeB_parts hsb
    have HL : Hid (lensB T = true) := hL
    have hEl : (evsT T 0).length ≤ 96 := by have := evsT_len T 0 HL.out; omega
    have HE2 : Hid (er = if 0 ≤ n ∧ n < (sizeN (evsT T 0) : Int) then 0 else 6) := HE.out.trans (by rw [hz]; rfl)
    have HX2 : Hid (ex = if 0 ≤ n ∧ n < (sizeN (evsT T 0) : Int) then exN (evsT T 0) n.toNat else ⟨[], []⟩) := HX.out.trans (by rw [hz]; rfl)
    clear HE HX hL hsb
    go_wp2_with fail
    refine (events_any T fa c _ vt vc _ (HT.out.keep hbw3) h2 HL.out).mono ?_
    generalize evsT T 0 = E at hEl hN HE2 HX2
    rintro e w5 ⟨u, rfl, hu, k5⟩
    have hbw5 := below_more hbw3 k5
    have HNC5 : Hid (∀ o z, w5.cell? ⟨w.heap.size + 1, o, none⟩ = some z → z = .slice none 0 0 ∧ o < 2) := fun o z hz => HNC.out o z (by rw [← k5.cell (p := ⟨w.heap.size + 1, o, none⟩) s3]; exact hz)
    replace d0 := keep_cell k5 d0
    replace d1 := keep_cell k5 d1
    replace f0 := (k5.frozen (p := ⟨w.heap.size + 1, 0, none⟩) s3).trans f0
    replace f1 := (k5.frozen (p := ⟨w.heap.size + 1, 1, none⟩) s3).trans f1
    have s5 : w.heap.size + 1 < w5.heap.size := by have := k5.size; omega
    clear k5 HNC g0 g1 g2 s3
    go_wp2_with fail
    refine (candidates_any E hEl u _ hu hN).mono ?_
    have hXl : (exs E).length = sizeN E := exs_len E
    have HXA : Hid (∀ k, k < sizeN E → (exs E)[k]? = some (exN E k)) := fun k hk => exs_at E k hk
    generalize exs E = XS at hXl HXA
    rintro e w6 ⟨u8, rfl, hu8, hb6⟩
    obtain ⟨ao8, b8, off8, cap8, hs8⟩ := hu8
    have hv8 := hs8.hv
    rw [hXl] at hv8
    subst hv8
    have HS8 : Hid (SlAt w6 2 XC (.slice ao8 (sizeN E) cap8) XS ao8 b8 off8 cap8) := hs8
    have HNC6 : Hid (∀ o z, w6.cell? ⟨w.heap.size + 1, o, none⟩ = some z → z = .slice none 0 0 ∧ o < 2) := fun o z hz => HNC5.out o z (by rw [← hb6.cell (p := ⟨w.heap.size + 1, o, none⟩) s5]; exact hz)
    have hbw6 := below_more hbw5 hb6
    replace d0 := keep_cell hb6 d0
    replace d1 := keep_cell hb6 d1
    replace f0 := (hb6.frozen (p := ⟨w.heap.size + 1, 0, none⟩) s5).trans f0
    replace f1 := (hb6.frozen (p := ⟨w.heap.size + 1, 1, none⟩) s5).trans f1
    have s6 : w.heap.size + 1 < w6.heap.size := by have := hb6.size; omega
    have HXL : Hid (XS.length = sizeN E) := hXl
    generalize hSN : sizeN E = S at HE2 HX2 hN HXA HS8 HXL
    clear hs8 hb6 HNC5 s5 hXl hSN
    by_cases hn : 0 ≤ n ∧ n < (S : Int)
    · obtain ⟨n', hn'⟩ := Int.eq_ofNat_of_zero_le hn.1
      subst hn'
      have HE3 : Hid (er = 0) := HE2.out.trans (if_pos hn)
      have HX3 : Hid (ex = exN E n') := HX2.out.trans (by rw [if_pos hn]; simp)
      have hlt : n' < S := by omega
      have hnI : (n' : Int) < (S : Int) := by omega
      obtain ⟨vf, vo, c0, c1, hxc⟩ := HS8.out.hc n' _ (HXA.out n' hlt)
      have hx := hxc.at'
      have ha8 := HS8.out.ha (by intro h0; have := HXL.out; rw [h0] at this; simp at this; omega)
      subst ha8
      obtain ⟨aof, cf, hff⟩ := hx.f.form
      obtain ⟨aoo, bo, oo, co, hso⟩ := hx.o
      have hfo := hso.hv
      subst hff hfo
      have HXX : Hid (ExeAt w6 (.slice aof (exN E n').from'.length cf) (.slice aoo (exN E n').order.length co) (exN E n')) := hx
      generalize hl1 : (exN E n').from'.length = l1 at HXX c0
      generalize hl2 : (exN E n').order.length = l2 at HXX c1
      have m8 := World.block_lt_of_cell? _ _ c0
      clear HE2 HX2 hn hx hxc hso hl1 hl2
      go_wp2_with fail
      refine bodyPost_ret (v := .tuple #[.agg #[.slice aof l1 cf, .slice aoo l2 co], .int .i64 0]) (by simp [results, Tryz.results68, go_sem, *]) rfl ⟨_, _, by rw [HE3.out], ?_, ?_⟩
      · rw [HX3.out]
        exact exe_store HXX.out rfl HNC6.out (fun b hb => by rw [Below.heap_setCell _ _ _ _ hb, Below.heap_setCell _ _ _ _ hb])
      · exact (hbw6.setCell (by simp) _).setCell (by simp) _
    · have HE3 : Hid (er = 6) := HE2.out.trans (if_neg hn)
      have HX3 : Hid (ex = ⟨[], []⟩) := HX2.out.trans (if_neg hn)
      clear HE2 HX2
      by_cases hneg : n < 0
      · clear hn
        go_wp2_with fail
        refine bodyPost_ret (v := .tuple #[.agg #[.slice none 0 0, .slice none 0 0], .int .i64 6]) (by simp [results, Tryz.results68, go_sem, *]) rfl ⟨_, _, by rw [HE3.out], by rw [HX3.out]; exact exe_nil _, ?_⟩
        exact (hbw6.setCell (by simp) _).setCell (by simp) _
      · have hge : (S : Int) ≤ n := by omega
        clear hn
        go_wp2_with fail
        refine bodyPost_ret (v := .tuple #[.agg #[.slice none 0 0, .slice none 0 0], .int .i64 6]) (by simp [results, Tryz.results68, go_sem, *]) rfl ⟨_, _, by rw [HE3.out], by rw [HX3.out]; exact exe_nil _, ?_⟩
        exact (hbw6.setCell (by simp) _).setCell (by simp) _

end Go.Proofs.YtomijmikkbhgmaaGreat

namespace Go.Proofs.YtomijmikkbhgmaaGreat
open Go.RowKit

/-- The first allowed candidate that decides. -/
def witL (n : Nat) (c : List Atm) (fa : Bool) : List (Option (List Int)) → Nat → Option Nat
  | [], _ => none
  | none :: L, i => witL n c fa L (i + 1)
  | some l :: L, i => if metB n c l != fa then some i else witL n c fa L (i + 1)
theorem witL_yes {n : Nat} {c : List Atm} {fa : Bool} {l : List Int} (h : (metB n c l != fa) = true) (L : List (Option (List Int))) (i : Nat) : witL n c fa (some l :: L) i = some i := by rw [witL, if_pos h]
theorem witL_no {n : Nat} {c : List Atm} {fa : Bool} {l : List Int} (h : (metB n c l != fa) = false) (L : List (Option (List Int))) (i : Nat) : witL n c fa (some l :: L) i = witL n c fa L (i + 1) := by rw [witL, if_neg (by simp [h])]

/-- What Witness tells. -/
def WOut (T : List (List Ins)) (c : List Atm) (fa : Bool) (al : Nat → Bool) (w : World) (n : Int) (vf vo : Value) (er : Int) : Prop :=
  ((chk T c).1 ≠ 0 ∧ n = 0 ∧ er = (chk T c).1 ∧ ExeAt w vf vo ⟨[], []⟩) ∨ ((chk T c).1 = 0 ∧ er = 0 ∧
    ((witL T.length c fa (optL al T (evsT T 0) (sizeN (evsT T 0))) 0 = none ∧ n = -1 ∧ ExeAt w vf vo ⟨[], []⟩) ∨
      ∃ k, witL T.length c fa (optL al T (evsT T 0) (sizeN (evsT T 0))) 0 = some k ∧ n = (k : Int) ∧ ExeAt w vf vo (exN (evsT T 0) k)))

set_option maxRecDepth 20000 in
set_option maxHeartbeats 4000000 in
theorem witnessR_any (T : List (List Ins)) (fa : Bool) (c : List Atm) (al : Nat → Bool) (hal : Als T (evsT T 0) al) (vt vc : Value) (w : World) (h : TestAt w (.agg #[vt, .bool fa, vc]) T fa c vt vc) :
    Calls Tryz.prog 28 #[.agg #[vt, .bool fa, vc]] w fun e w' => ∃ (n : Int) (vf vo : Value) (er : Int), e = .returned (.tuple #[.int .i64 n, .agg #[vf, vo], .int .i64 er]) ∧ WOut T c fa al w' n vf vo er ∧ Below w.heap.size w w' := by
  have HT : Hid (TestAt w (.agg #[vt, .bool fa, vc]) T fa c vt vc) := h
  have HALL : Hid (((chk T c).1 == 0) = true → ∀ w', Below w.heap.size w w' → Calls Tryz.prog 46 #[.agg #[vt, .bool fa, vc]] w' fun e w'' => ∃ u s, e = .returned (.tuple #[u, s]) ∧ XAt w'' u (exs (evsT T 0)) ∧ OptAt w'' s (optL al T (evsT T 0) (sizeN (evsT T 0))) ∧ Below w'.heap.size w' w'') := fun hz w' hb => all_any T fa c hz al hal vt vc w' (h.keep hb)
  have HOK : Hid (((chk T c).1 == 0) = true → T.length ≤ 4 ∧ AtmsOk T.length c ∧ (optL al T (evsT T 0) (sizeN (evsT T 0))).length ≤ 2000 ∧ ∀ o ∈ optL al T (evsT T 0) (sizeN (evsT T 0)), StOk (3 * T.length + 3) o) := fun hz => ⟨(fits_of hz).short.t4, chk_atms hz, by rw [optL_len]; exact chk_many_no hz, optL_ok hz al _⟩
  have HXS : Hid ((exs (evsT T 0)).length = (optL al T (evsT T 0) (sizeN (evsT T 0))).length ∧ ∀ n, n < (optL al T (evsT T 0) (sizeN (evsT T 0))).length → (exs (evsT T 0))[n]? = some (exN (evsT T 0) n)) := by rw [optL_len]; exact ⟨exs_len _, fun n hn => exs_at _ n hn⟩
  have HJ : Hid (∀ w' n vf vo er, WOut T c fa al w' n vf vo er ↔ ((chk T c).1 ≠ 0 ∧ n = 0 ∧ er = (chk T c).1 ∧ ExeAt w' vf vo ⟨[], []⟩) ∨ ((chk T c).1 = 0 ∧ er = 0 ∧
    ((witL T.length c fa (optL al T (evsT T 0) (sizeN (evsT T 0))) 0 = none ∧ n = -1 ∧ ExeAt w' vf vo ⟨[], []⟩) ∨
      ∃ k, witL T.length c fa (optL al T (evsT T 0) (sizeN (evsT T 0))) 0 = some k ∧ n = (k : Int) ∧ ExeAt w' vf vo (exN (evsT T 0) k)))) := fun _ _ _ _ _ => Iff.rfl
  have HO3 : Hid (∀ k, (exN (evsT T 0) k).order.length = 3) := fun k => rfl
  generalize WOut T c fa al = J at HJ ⊢
  generalize optL al T (evsT T 0) (sizeN (evsT T 0)) = L at HALL HOK HJ HXS
  generalize exN (evsT T 0) = XN at HXS HJ HO3
  generalize exs (evsT T 0) = XS at HALL HXS
  generalize hq : chk T c = q at HALL HOK HJ
  have HQ : Hid (chk T c = q) := hq
  clear hq h
  go_enter Tryz.func28, Tryz.ntmps28
  go_wp2_with fail
  refine (checkR_any T fa c _ vt vc _ (HT.out.keep (below_two _ _ _))).mono ?_
  rw [HQ.out]
  rintro e w3 ⟨rfl, hb3⟩
  have hbw3 := below_more (below_two w (.cells #[vt, .bool fa, vc] 25) (.cells #[.slice none 0 0, .slice none 0 0] 29)) hb3
  simp only [World.size_alloc] at hb3
  have HNC : Hid (∀ o z, w3.cell? ⟨w.heap.size + 1, o, none⟩ = some z → z = .slice none 0 0 ∧ o < 2) := nil_cells hb3
  obtain ⟨t0, t1, t2, d0, d1, f0, f1, s2, s3⟩ := own5 hb3
  clear hb3
  cases hz : q.1 == 0
  · have hz2 : (q.1 != 0) = true := by simp [bne, hz]
    have HM : Hid (∀ w', J w' 0 (.slice none 0 0) (.slice none 0 0) q.1) := fun w' => (HJ.out w' _ _ _ _).2 (.inl ⟨by simpa using hz, rfl, rfl, exe_nil _⟩)
    clear HJ
    go_wp2_with fail
    refine bodyPost_ret (v := .tuple #[.int .i64 0, .agg #[.slice none 0 0, .slice none 0 0], .int .i64 q.1]) (by simp [results, Tryz.results28, go_sem, *]) rfl ⟨_, _, _, _, rfl, HM.out _, ?_⟩
    exact (hbw3.setCell (by simp) _).setCell (by simp) _
  · have hz2 : (q.1 != 0) = false := by simp [bne, hz]
    have hq0 : q.1 = 0 := by simpa using hz
    obtain ⟨hT4, hAt, hL2, hLok⟩ := HOK.out hz
    have HJN : Hid (∀ w', witL T.length c fa L 0 = none → J w' (-1) (.slice none 0 0) (.slice none 0 0) 0) := fun w' hn => (HJ.out w' _ _ _ _).2 (.inr ⟨hq0, rfl, .inl ⟨hn, rfl, exe_nil _⟩⟩)
    have HJS : Hid (∀ w' k vf vo, witL T.length c fa L 0 = some k → ExeAt w' vf vo (XN k) → J w' (k : Int) vf vo 0) := fun w' k vf vo hn hx => (HJ.out w' _ _ _ _).2 (.inr ⟨hq0, rfl, .inr ⟨k, hn, rfl, hx⟩⟩)
    have HLS : Hid (∀ l, some l ∈ L → l.length = 3 * T.length + 3) := fun l hl => (hLok _ hl l rfl).1
    have HMT : Hid (∀ (s : List Int) (v : Value) (w' : World), s.length = 3 * T.length + 3 → Below w.heap.size w w' → IntAt w' v s → Calls Tryz.prog 50 #[.agg #[vt, .bool fa, vc], v] w' fun e w'' => e = .returned (.bool (metB T.length c s)) ∧ Below w'.heap.size w' w'') := fun s v w' hs hb hv => met_any T hT4 fa c hAt vt vc s hs v w' (HT.out.keep hb) hv
    have HA : Hid (∀ w', Below w.heap.size w w' → Calls Tryz.prog 46 #[.agg #[vt, .bool fa, vc]] w' fun e w'' => ∃ u s, e = .returned (.tuple #[u, s]) ∧ XAt w'' u XS ∧ OptAt w'' s L ∧ Below w'.heap.size w' w'') := HALL.out hz
    have q1 : ∀ (w : World) (a : Addr) (n c n' c' : Nat), (binOp .eql 26 (.slice (some a) n c) (.slice none n' c')).run Tryz.prog w = .ok (.bool false) w := fun w a n c n' c' => Lib.run_eql_slice_nil w _ _ (some a) n c n' c' Tryz.underlying26
    have q2 : ∀ (w : World) (n c n' c' : Nat), (binOp .eql 26 (.slice none n c) (.slice none n' c')).run Tryz.prog w = .ok (.bool true) w := fun w n c n' c' => Lib.run_eql_slice_nil w _ _ none n c n' c' Tryz.underlying26
    clear HJ HALL HOK hLok hAt hq0
    go_wp2_with fail
    refine (HA.out w3 hbw3).mono ?_
    rintro e w4 ⟨ux, us, rfl, hux, hus, hb4⟩
    have hbw4 := below_more hbw3 hb4
    obtain ⟨aoX, bX, offX, capX, hsX⟩ := hux
    have hvX := hsX.hv
    rw [HXS.out.1] at hvX
    subst hvX
    have HSX : Hid (SlAt w4 2 XC (.slice aoX L.length capX) XS aoX bX offX capX) := hsX
    obtain ⟨aoS, bS, offS, capS, hvS, haS, _, hcS⟩ := hus
    subst hvS
    have HSC : Hid (∀ k o, L[k]? = some o → ∃ u, w4.cell? ⟨bS, offS + k, none⟩ = some u ∧ OptV w4 u o) := fun k o hk => by
      obtain ⟨u, h1, h2⟩ := hcS k o hk
      rw [Nat.mul_one] at h1
      exact ⟨u, h1, h2⟩
    have HNC4 : Hid (∀ w', Below w4.heap.size w4 w' → ∀ o z, w'.cell? ⟨w.heap.size + 1, o, none⟩ = some z → z = .slice none 0 0 ∧ o < 2) := fun w' hb o z hz => HNC.out o z (by rw [← hb4.cell (p := ⟨w.heap.size + 1, o, none⟩) s3, ← hb.cell (p := ⟨w.heap.size + 1, o, none⟩) (Nat.lt_of_lt_of_le s3 hb4.size)]; exact hz)
    have HK : Hid (∀ w', Below w4.heap.size w4 w' → (w'.cell? ⟨w.heap.size, 0, none⟩ = some vt ∧ w'.cell? ⟨w.heap.size, 1, none⟩ = some (.bool fa) ∧ w'.cell? ⟨w.heap.size, 2, none⟩ = some vc) ∧ (w'.cell? ⟨w.heap.size + 1, 0, none⟩ = some (.slice none 0 0) ∧ w'.cell? ⟨w.heap.size + 1, 1, none⟩ = some (.slice none 0 0)) ∧ (w'.frozen? ⟨w.heap.size + 1, 0, none⟩ = false ∧ w'.frozen? ⟨w.heap.size + 1, 1, none⟩ = false) ∧ w.heap.size + 1 < w'.heap.size) := fun w' hb => by
      have hb' := below_more hb4 hb
      exact ⟨⟨keep_cell hb' t0, keep_cell hb' t1, keep_cell hb' t2⟩, ⟨keep_cell hb' d0, keep_cell hb' d1⟩, ⟨(hb'.frozen (p := ⟨w.heap.size + 1, 0, none⟩) s3).trans f0, (hb'.frozen (p := ⟨w.heap.size + 1, 1, none⟩) s3).trans f1⟩, Nat.lt_of_lt_of_le s3 hb'.size⟩
    have HB : Hid (witL T.length c fa L 0 = witL T.length c fa (L.drop 0) 0) := rfl
    clear hcS t0 t1 t2 d0 d1 f0 f1 s2 s3 hb4 hbw3 HA hsX HNC
    generalize witL T.length c fa L 0 = WL at HB HJN HJS
    go_wp2_with fail
    go_loopw [9] (fun i wr => ∃ k : Nat, k ≤ L.length ∧ i = .int .i64 k ∧ Hid (WL = witL T.length c fa (L.drop k) k) ∧ Below w4.heap.size w4 wr) (fun i _ => L.length - (intOf i).toNat)
    case atStart => exact ⟨0, Nat.zero_le _, rfl, HB.out, Below.refl _ _⟩
    case round =>
      clear HB
      obtain ⟨k, hk, rfl, hn, hb⟩ := hrel
      have hbw := below_more hbw4 hb
      by_cases hkl : k < L.length
      · obtain ⟨o, ho⟩ := get_of_lt hkl
        obtain rfl := haS (ne_nil hkl)
        obtain ⟨uo, c0, huo⟩ := HSC.out k o ho
        replace c0 := keep_cell hb c0
        have HN : Hid (WL = witL T.length c fa (o :: L.drop (k + 1)) k) := hn.out.trans (by rw [drop_cons ho])
        have hkI : (k : Int) < (L.length : Int) := by omega
        have hmem := List.mem_of_getElem? ho
        clear ho hn
        cases o with
        | none =>
          have hu0 : uo = .slice none 0 0 := huo
          subst hu0
          have HN2 : Hid (WL = witL T.length c fa (L.drop (k + 1)) (k + 1)) := HN.out
          clear huo hmem HN
          go_wp2_with fail
          go_roundw
          case measure => simp [intOf]; omega
          case rel => exact ⟨k + 1, by omega, by go_num, HN2.out, hb⟩
        | some l =>
          obtain ⟨al', capl, hul⟩ := OptV.form huo
          subst hul
          have hll := HLS.out l hmem
          have HM1 : Hid (∀ w', Below wr.heap.size wr w' → Calls Tryz.prog 50 #[.agg #[vt, .bool fa, vc], .slice (some al') l.length capl] w' fun e w'' => e = .returned (.bool (metB T.length c l)) ∧ Below w'.heap.size w' w'') := fun w' hb' => HMT.out l _ w' hll (below_more hbw hb') (huo.1.keep (below_more hb hb'))
          obtain ⟨⟨t0, t1, t2⟩, _, _, _⟩ := HK.out wr hb
          have HGY : Hid ((metB T.length c l != fa) = true → WL = some k) := fun hm => HN.out.trans (witL_yes hm _ _)
          have HGN : Hid ((metB T.length c l != fa) = false → WL = witL T.length c fa (L.drop (k + 1)) (k + 1)) := fun hm => HN.out.trans (witL_no hm _ _)
          generalize metB T.length c l = mt at HM1 HGY HGN
          clear huo hmem hll HN
          go_wp2_with fail
          have g0 := grown_cell t0
          have g1 := grown_cell t1
          have g2 := grown_cell t2
          have g3 := grown_cell c0
          have hnw := grw_some wr
          refine wp_region_grown (by kernel_rfl) (by kernel_rfl) ?_
          repeat (go_big_quiet_step ((go_at_call 50; exact grown_call (HM1.out _ (Grw.low _)))))
          refine wpQuiet_nil ?_
          intro w7 hw7
          obtain ⟨⟨w7', hb7⟩, rfl⟩ := hw7
          have hb47 := below_more hb hb7
          have hbw7 := below_more hbw4 hb47
          clear g0 g1 g2 g3 HM1 hnw t0 t1 t2 c0 hb hb7 hbw
          obtain ⟨⟨t0, t1, t2⟩, ⟨d0, d1⟩, ⟨f0, f1⟩, s7⟩ := HK.out w7 hb47
          cases hmf : (mt != fa)
          · have HN2 : Hid (WL = witL T.length c fa (L.drop (k + 1)) (k + 1)) := HGN.out hmf
            clear HGY HGN
            have e : mt = fa := by simpa using hmf
            clear hmf
            subst e
            cases mt
            all_goals
              go_wp2_with fail
              go_roundw
              case measure => simp [intOf]; omega
              case rel => exact ⟨k + 1, by omega, by go_num, HN2.out, hb47⟩
          · have HN2 : Hid (WL = some k) := HGY.out hmf
            obtain ⟨vf, vo, x0, x1, hxc⟩ := HSX.out.hc k _ (HXS.out.2 k hkl)
            have haX := HSX.out.ha (by intro h0; have := HXS.out.1; rw [h0] at this; simp at this; omega)
            subst haX
            have hxa := hxc.at'.keep hb47
            obtain ⟨aof, cf, hff⟩ := hxa.f.form
            obtain ⟨aoo, bo, oo, co, hso⟩ := hxa.o
            have hfo := hso.hv
            subst hff hfo
            have HXX : Hid (ExeAt w7 (.slice aof (XN k).from'.length cf) (.slice aoo (XN k).order.length co) (XN k)) := hxa
            replace x0 := keep_cell hb47 x0
            replace x1 := keep_cell hb47 x1
            have HL3 : Hid ((XN k).order.length = 3) := HO3.out k
            generalize hl1 : (XN k).from'.length = l1 at HXX x0
            generalize hl2 : (XN k).order.length = l2 at HXX x1
            have HN7 := HNC4.out w7 hb47
            have HNC7 : Hid (∀ o z, w7.cell? ⟨w.heap.size + 1, o, none⟩ = some z → z = .slice none 0 0 ∧ o < 2) := HN7
            have mx := World.block_lt_of_cell? _ _ x0
            simp only at mx
            have hbX : bX ≠ w.heap.size + 1 := fun e => by
              have := (HN7 (offX + k * 2 + 1) _ (by rw [← e]; exact x1)).1
              have h3 := HL3.out
              rw [hl2] at h3
              subst h3
              simp at this
            clear HGY HGN hxc hxa hso hl1 hl2 HN7 t0 t2
            have e : mt = !fa := by revert hmf; cases mt <;> cases fa <;> simp
            clear hmf
            subst e
            cases fa
            all_goals
              go_wp2_with fail
              go_region
              all_goals
                go_wp2_with fail
                refine bodyPost_ret (v := .tuple #[.int .i64 k, .agg #[.slice aof l1 cf, .slice aoo l2 co], .int .i64 0]) (by simp [results, Tryz.results28, go_sem, *]) rfl ⟨_, _, _, _, rfl, HJS.out _ k _ _ HN2.out ?_, ?_⟩
                · exact exe_store HXX.out HL3.out HNC7.out (fun b hb => by first | rw [Below.heap_setCell _ _ _ _ hb, Below.heap_setCell _ _ _ _ hb] | (show ((w7.setCell _ _).setCell _ _).heap[b]? = _; rw [Below.heap_setCell _ _ _ _ hb, Below.heap_setCell _ _ _ _ hb]))
                · first | exact (hbw7.drew.setCell (by simp) _).setCell (by simp) _ | exact Below.drew ((hbw7.setCell (by simp) _).setCell (by simp) _)
      · have HN2 : Hid (WL = none) := hn.out.trans (by rw [drop_nil hkl]; rfl)
        have hkI : (L.length : Int) ≤ (k : Int) := by omega
        obtain ⟨_, ⟨d0, d1⟩, ⟨f0, f1⟩, s7⟩ := HK.out wr hb
        clear hn
        go_wp2_with fail
        refine bodyPost_ret (v := .tuple #[.int .i64 (-1), .agg #[.slice none 0 0, .slice none 0 0], .int .i64 0]) (by simp [results, Tryz.results28, go_sem, *]) rfl ⟨_, _, _, _, rfl, HJN.out _ HN2.out, ?_⟩
        exact (hbw.setCell (by simp) _).setCell (by simp) _

end Go.Proofs.YtomijmikkbhgmaaGreat

namespace Go.Proofs.YtomijmikkbhgmaaGreat
open Go.RowKit

def gdS (n : Nat) (c : List Atm) (S : List (List Int)) : Nat := (S.filter fun s => metB n c s).length
def bdS (n : Nat) (c : List Atm) (S : List (List Int)) : Nat := (S.filter fun s => !metB n c s).length
theorem gdS_yes {n : Nat} {c : List Atm} {l : List Int} (h : metB n c l = true) (S : List (List Int)) : gdS n c (S ++ [l]) = gdS n c S + 1 ∧ bdS n c (S ++ [l]) = bdS n c S := by
  unfold gdS bdS; simp [h]
theorem gdS_no {n : Nat} {c : List Atm} {l : List Int} (h : metB n c l = false) (S : List (List Int)) : gdS n c (S ++ [l]) = gdS n c S ∧ bdS n c (S ++ [l]) = bdS n c S + 1 := by
  unfold gdS bdS; simp [h]
theorem gdS_le (n : Nat) (c : List Atm) (S : List (List Int)) : gdS n c S ≤ S.length ∧ bdS n c S ≤ S.length := ⟨List.length_filter_le _ _, List.length_filter_le _ _⟩

/-- What is needed of cases. -/
theorem cas_parts {T : List (List Ins)} {E : List Evt} {B : Nat} {w : World} {b off n : Nat} (h : CasC T E B w b off n) : ∃ a1 n1 p1 a2 n2 p2 a3 p3, w.cell? ⟨b, off, none⟩ = some (.int .i64 n) ∧ w.cell? ⟨b, off + 1, none⟩ = some (.slice a1 n1 p1) ∧ w.cell? ⟨b, off + 2, none⟩ = some (.slice a2 n2 p2) ∧ w.cell? ⟨b, off + 3, none⟩ = some (.slice a3 (stX T E (exN E n)).length p3) ∧ StabB T E B w (.slice a1 n1 p1) (.slice a2 n2 p2) (.slice a3 (stX T E (exN E n)).length p3) n := by
  obtain ⟨vf, vo, u, h1, h2, h3, h4, h56⟩ := h
  obtain ⟨h5, h6⟩ := h56.now
  obtain ⟨a1, p1, e1⟩ := h5.f.form
  obtain ⟨a2, b2, o2, p2, hs2⟩ := h5.o
  have e2 := hs2.hv
  obtain ⟨a3, p3, e3⟩ := h6.form
  subst e1 e2 e3
  exact ⟨a1, _, p1, a2, _, p2, a3, p3, h1, h2, h3, h4, h56⟩

set_option maxRecDepth 20000 in
set_option maxHeartbeats 4000000 in
theorem verdictOf_any (T : List (List Ins)) (fa : Bool) (c : List Atm) (hz : ((chk T c).1 == 0) = true) (al : Nat → Bool) (hal : Als T (evsT T 0) al) (vt vc v : Value) (w : World) (h : TestAt w (.agg #[vt, .bool fa, vc]) T fa c vt vc) (hv : Ev4Cap w v (evsT T 0)) :
    Calls Tryz.prog 49 #[.agg #[vt, .bool fa, vc], v] w fun e w' => e = .returned (repV (gdN T.length c (optL al T (evsT T 0) (sizeN (evsT T 0)))) (bdN T.length c (optL al T (evsT T 0) (sizeN (evsT T 0)))) fa) ∧ Below w.heap.size w w' := by
  have HCS : Hid (∀ w', Below w.heap.size w w' → Calls Tryz.prog 85 #[vt, v] w' fun e w'' => ∃ u, e = .returned u ∧ CasAt T (evsT T 0) w'.heap.size w'' u (casN al (sizeN (evsT T 0))) ∧ Below w'.heap.size w' w'') := fun w' hb => cases_any T c hz al hal vt v w' (h.ht.keep hb) (hv.keep hb)
  have hT4 := (fits_of hz).short.t4
  have hAt := chk_atms hz
  have hN := chk_many_no hz
  have hC2 : (casN al (sizeN (evsT T 0))).length ≤ 2000 := Nat.le_trans (casN_len _ _) hN
  have HHD : Hid (∀ (s : List Int) (vs : Value) (w' : World), s.length = 3 * T.length + 3 → Below w.heap.size w w' → IntAt w' vs s → Calls Tryz.prog 95 #[.agg #[vt, .bool fa, vc], vs] w' fun e w'' => e = .returned (.bool (metB T.length c s)) ∧ Below w'.heap.size w' w'') := fun s vs w' hs hb hi => holdsP_any T hT4 fa c hAt vt vc s hs vs w' (h.keep hb) hi
  generalize hst : (fun n => stX T (evsT T 0) (exN (evsT T 0) n)) = st
  have hst' : ∀ n, stX T (evsT T 0) (exN (evsT T 0) n) = st n := fun n => by rw [← hst]
  have HGB : Hid (gdN T.length c (optL al T (evsT T 0) (sizeN (evsT T 0))) = gdS T.length c ((casN al (sizeN (evsT T 0))).map st) ∧ bdN T.length c (optL al T (evsT T 0) (sizeN (evsT T 0))) = bdS T.length c ((casN al (sizeN (evsT T 0))).map st)) := by
    unfold gdN bdN gdS bdS
    rw [casN_states, hst]
    exact ⟨rfl, rfl⟩
  have HSL : Hid (∀ n, (st n).length = 3 * T.length + 3) := fun n => by rw [← hst']; exact stX_len _ _ _
  have HKN : Hid (∀ B w' b off n, CasC T (evsT T 0) B w' b off n → ∃ a1 n1 p1 a2 n2 p2 a3 p3, w'.cell? ⟨b, off, none⟩ = some (.int .i64 n) ∧ w'.cell? ⟨b, off + 1, none⟩ = some (.slice a1 n1 p1) ∧ w'.cell? ⟨b, off + 2, none⟩ = some (.slice a2 n2 p2) ∧ w'.cell? ⟨b, off + 3, none⟩ = some (.slice a3 (st n).length p3) ∧ IntAt w' (.slice a3 (st n).length p3) (st n)) := fun B w' b off n hc => by
    obtain ⟨a1, n1, p1, a2, n2, p2, a3, p3, k1, k2, k3, k4, k5⟩ := cas_parts hc
    have k6 := k5.now.2
    rw [hst'] at k4 k6
    exact ⟨a1, n1, p1, a2, n2, p2, a3, p3, k1, k2, k3, k4, k6⟩
  generalize gdN T.length c (optL al T (evsT T 0) (sizeN (evsT T 0))) = G at HGB ⊢
  generalize bdN T.length c (optL al T (evsT T 0) (sizeN (evsT T 0))) = Bd at HGB ⊢
  obtain ⟨_, aoT, bT, offT, capT, hvT, _⟩ := h.ht
  obtain ⟨hc0, aoc, bc, offc, capc, hsc⟩ := h.hc
  have hcv := hsc.hv
  obtain ⟨ao, b, off, cap, ⟨hv1, _, _, _⟩, _⟩ := hv
  subst hv1 hvT hcv
  clear hz hal hN hst hst' h hsc hAt
  generalize evsT T 0 = E at *
  generalize casN al (sizeN E) = C at *
  have HTK : Hid (∀ (k n : Nat), C[k]? = some n → (C.map st).take (k + 1) = (C.map st).take k ++ [st n]) := fun k n hk => by rw [List.take_add_one, List.getElem?_map, hk]; rfl
  have HGL : Hid (∀ k, gdS T.length c ((C.map st).take k) ≤ 2000 ∧ bdS T.length c ((C.map st).take k) ≤ 2000) := fun k => by
    have h1 := gdS_le T.length c ((C.map st).take k)
    have h3 : ((C.map st).take k).length ≤ 2000 := by rw [List.length_take, List.length_map]; omega
    exact ⟨by omega, by omega⟩
  go_enter Tryz.func49, Tryz.ntmps49
  go_wp2_with fail
  have hba := below_two w (.cells #[.slice aoT T.length capT, .bool fa, .slice aoc c.length capc] 25) (.cells #[.int .i64 0, .int .i64 0, .int .i64 0, .bool false] 60)
  refine (HCS.out _ hba).mono ?_
  rintro e w3 ⟨uc, rfl, hcs, hb3⟩
  have hbw3 := below_more hba hb3
  have t0 := keep_cell hb3 (b := w.heap.size) (off := 0) (u := .slice aoT T.length capT) (by simp)
  have t1 := keep_cell hb3 (b := w.heap.size) (off := 1) (u := .bool fa) (by simp)
  have t2 := keep_cell hb3 (b := w.heap.size) (off := 2) (u := .slice aoc c.length capc) (by simp)
  have HR3 : Hid (RepC w3 (w.heap.size + 1) 0 0 0 false) := by
    refine RepC.keep (w := (w.alloc (.cells #[.slice aoT T.length capT, .bool fa, .slice aoc c.length capc] 25)).alloc (.cells #[.int .i64 0, .int .i64 0, .int .i64 0, .bool false] 60)) ⟨?_, ?_, ?_, ?_, ?_, ?_, ?_, ?_⟩ hb3 <;> simp
  obtain ⟨aoC, bC, offC, capC, hvC, haC, _, hcC⟩ := hcs
  subst hvC
  have HCC : Hid (∀ (k n : Nat), C[k]? = some n → ∃ a1 n1 p1 a2 n2 p2 a3 p3, w3.cell? ⟨bC, offC + k * 4, none⟩ = some (.int .i64 n) ∧ w3.cell? ⟨bC, offC + k * 4 + 1, none⟩ = some (.slice a1 n1 p1) ∧ w3.cell? ⟨bC, offC + k * 4 + 2, none⟩ = some (.slice a2 n2 p2) ∧ w3.cell? ⟨bC, offC + k * 4 + 3, none⟩ = some (.slice a3 (st n).length p3) ∧ IntAt w3 (.slice a3 (st n).length p3) (st n)) := fun k n hk => HKN.out _ _ _ _ _ (hcC k n hk)
  have HK : Hid (∀ w', Below w3.heap.size w3 w' → w'.cell? ⟨w.heap.size, 0, none⟩ = some (.slice aoT T.length capT) ∧ w'.cell? ⟨w.heap.size, 1, none⟩ = some (.bool fa) ∧ w'.cell? ⟨w.heap.size, 2, none⟩ = some (.slice aoc c.length capc)) := fun w' hb => ⟨keep_cell hb t0, keep_cell hb t1, keep_cell hb t2⟩
  clear hcC HCS HKN t0 t1 t2 hb3 hba
  go_wp2_with fail
  go_loopw [5, 6, 15] (fun x y i wr => ∃ k : Nat, k ≤ C.length ∧ i = .int .i64 k ∧ x = .int .i64 ((gdS T.length c ((C.map st).take k) : Nat) : Int) ∧ y = .int .i64 ((bdS T.length c ((C.map st).take k) : Nat) : Int) ∧ Below w3.heap.size w3 wr) (fun _ _ i _ => C.length - (intOf i).toNat)
  case atStart => exact ⟨0, Nat.zero_le _, rfl, rfl, rfl, Below.refl _ _⟩
  case round =>
    obtain ⟨k, hk, rfl, rfl, rfl, hb⟩ := hrel
    obtain ⟨hg2, hb2⟩ := HGL.out k
    have hbw := below_more hbw3 hb
    obtain ⟨t0, t1, t2⟩ := HK.out wr hb
    by_cases hlt : k < C.length
    · obtain ⟨n, hn⟩ := get_of_lt hlt
      obtain rfl := haC (ne_nil hlt)
      obtain ⟨a1, n1, p1, a2, n2, p2, a3, p3, c0, c1, c2, c3, hus⟩ := HCC.out k n hn
      have htk := HTK.out k n hn
      have HYES : Hid (metB T.length c (st n) = true → gdS T.length c ((C.map st).take (k + 1)) = gdS T.length c ((C.map st).take k) + 1 ∧ bdS T.length c ((C.map st).take (k + 1)) = bdS T.length c ((C.map st).take k)) := fun hm => by rw [htk]; exact gdS_yes hm _
      have HNO : Hid (metB T.length c (st n) = false → gdS T.length c ((C.map st).take (k + 1)) = gdS T.length c ((C.map st).take k) ∧ bdS T.length c ((C.map st).take (k + 1)) = bdS T.length c ((C.map st).take k) + 1) := fun hm => by rw [htk]; exact gdS_no hm _
      have HH1 : Hid (∀ w', Below wr.heap.size wr w' → Calls Tryz.prog 95 #[.agg #[.slice aoT T.length capT, .bool fa, .slice aoc c.length capc], .slice a3 (st n).length p3] w' fun e w'' => e = .returned (.bool (metB T.length c (st n))) ∧ Below w'.heap.size w' w'') := fun w' hb' => HHD.out (st n) _ w' (HSL.out n) (below_more hbw hb') (hus.keep (below_more hb hb'))
      generalize metB T.length c (st n) = mt at HYES HNO HH1
      have d0 := keep_cell hb c0
      have d1 := keep_cell hb c1
      have d2 := keep_cell hb c2
      have d3 := keep_cell hb c3
      have hkI : (k : Int) < (C.length : Int) := by omega
      generalize (st n).length = ln at *
      generalize gdS T.length c ((C.map st).take k) = g at *
      generalize bdS T.length c ((C.map st).take k) = bd at *
      clear hus htk c0 c1 c2 c3 hn
      have hm0 := World.block_lt_of_cell? _ _ t0
      simp only at hm0
      go_wp2_with fail
      have hba2 := below_alloc wr (.cells #[.int .i64 n, .slice a1 n1 p1, .slice a2 n2 p2, .slice a3 ln p3] 96)
      refine (HH1.out _ hba2).mono ?_
      rintro e w5 ⟨rfl, hb5⟩
      have hb35 := below_more (below_more hb hba2) hb5
      clear d0 d1 d2 d3 t0 t1 t2 hb5 hba2 HH1
      cases mt
      · obtain ⟨e1, e2⟩ := HNO.out rfl
        have HE : Hid (gdS T.length c ((C.map st).take (k + 1)) = g ∧ bdS T.length c ((C.map st).take (k + 1)) = bd + 1) := ⟨e1, e2⟩
        have hwr : IntKind.i64.wrap ((bd : Int) + 1) = ((bd + 1 : Nat) : Int) := by rw [IntKind.wrap_i64]; omega
        clear e1 e2 HYES HNO
        go_wp2_with fail
        go_roundw
        case measure => simp [intOf]; omega
        case rel => exact ⟨k + 1, by omega, by go_num, by rw [HE.out.1], by rw [HE.out.2]; go_num, hb35⟩
      · obtain ⟨e1, e2⟩ := HYES.out rfl
        have HE : Hid (gdS T.length c ((C.map st).take (k + 1)) = g + 1 ∧ bdS T.length c ((C.map st).take (k + 1)) = bd) := ⟨e1, e2⟩
        have hwr : IntKind.i64.wrap ((g : Int) + 1) = ((g + 1 : Nat) : Int) := by rw [IntKind.wrap_i64]; omega
        clear e1 e2 HYES HNO
        go_wp2_with fail
        go_roundw
        case measure => simp [intOf]; omega
        case rel => exact ⟨k + 1, by omega, by go_num, by rw [HE.out.1]; go_num, by rw [HE.out.2], hb35⟩
    · have htk : (C.map st).take k = C.map st := List.take_of_length_le (by rw [List.length_map]; omega)
      rw [htk] at hg2 hb2
      rw [htk]
      have hkI : (C.length : Int) ≤ (k : Int) := by omega
      obtain ⟨e1, e2⟩ := HGB.out
      rw [← e1, ← e2]
      rw [← e1] at hg2
      rw [← e2] at hb2
      have HNM : Hid (∀ w', Calls Tryz.prog 96 #[.int .i64 G, .int .i64 Bd] w' fun e w'' => e = .returned (.int .i64 (if G == 0 then 0 else if Bd == 0 then 2 else 1)) ∧ Below w'.heap.size w' w'') := fun w' => named_any G Bd w'
      have HRP : Hid (repV G Bd fa = .agg #[.int .i64 (if G == 0 then 0 else if Bd == 0 then 2 else 1), .int .i64 G, .int .i64 Bd, .bool (if fa then Bd == 0 else decide (0 < G))]) := rfl
      generalize (if G == 0 then (0 : Int) else if Bd == 0 then 2 else 1) = nm at HNM HRP
      obtain ⟨r0, r1, r2, r3, s0, s1, s2, s3⟩ := HR3.out.keep hb
      have HRB : Hid (RepC wr (w.heap.size + 1) 0 0 0 false) := HR3.out.keep hb
      clear htk e1 e2 r0 r1 r2 r3 s0 s1 s2 s3 t0 t2
      go_wp2_with fail
      refine (HNM.out wr).mono ?_
      rintro e w5 ⟨rfl, hb5⟩
      replace t1 := keep_cell hb5 t1
      have hrk := HRB.out.keep hb5
      have hrl := hrk.lt
      obtain ⟨r0, r1, r2, r3, s0, s1, s2, s3⟩ := hrk
      have hbw5 := below_more hbw hb5
      have hm1 := World.block_lt_of_cell? _ _ t1
      simp only at hm1
      clear HRB hb5
      cases fa
      · rcases Nat.eq_zero_or_pos G with hg0 | hg0
        · subst hg0
          go_wp2_with fail
          refine bodyPost_ret (v := .agg #[.int .i64 nm, .int .i64 0, .int .i64 Bd, .bool false]) (by simp [results, Tryz.results49, go_sem, *]) rfl ⟨by rw [HRP.out]; rfl, ?_⟩
          refine Below.alloc ?_ (by have := hbw5.size; first | (simp; done) | (simp; omega)) _
          repeat (refine Below.setCell ?_ (by first | (simp; done) | (simp; omega) | omega) _)
          exact hbw5
        · have hgI : (0 : Int) < (G : Int) := by omega
          go_wp2_with fail
          refine bodyPost_ret (v := .agg #[.int .i64 nm, .int .i64 G, .int .i64 Bd, .bool true]) (by simp [results, Tryz.results49, go_sem, *]) rfl ⟨by rw [HRP.out]; simp [hg0], ?_⟩
          refine Below.alloc ?_ (by have := hbw5.size; first | (simp; done) | (simp; omega)) _
          repeat (refine Below.setCell ?_ (by first | (simp; done) | (simp; omega) | omega) _)
          exact hbw5
      · rcases Nat.eq_zero_or_pos Bd with hb0 | hb0
        · subst hb0
          go_wp2_with fail
          refine bodyPost_ret (v := .agg #[.int .i64 nm, .int .i64 G, .int .i64 0, .bool true]) (by simp [results, Tryz.results49, go_sem, *]) rfl ⟨by rw [HRP.out]; rfl, ?_⟩
          refine Below.alloc ?_ (by have := hbw5.size; first | (simp; done) | (simp; omega)) _
          repeat (refine Below.setCell ?_ (by first | (simp; done) | (simp; omega) | omega) _)
          exact hbw5
        · have hbe : ((Bd : Int) == 0) = false := by simp; omega
          have hbn : (Bd == 0) = false := by simp; omega
          go_wp2_with fail
          refine bodyPost_ret (v := .agg #[.int .i64 nm, .int .i64 G, .int .i64 Bd, .bool false]) (by simp [results, Tryz.results49, go_sem, *]) rfl ⟨by rw [HRP.out]; simp [hbn], ?_⟩
          refine Below.alloc ?_ (by have := hbw5.size; first | (simp; done) | (simp; omega)) _
          repeat (refine Below.setCell ?_ (by first | (simp; done) | (simp; omega) | omega) _)
          exact hbw5

end Go.Proofs.YtomijmikkbhgmaaGreat
