import Derived.Test.YtomijmikkbhgmaaGreatT35
import Derived.Test.YtomijmikkbhgmaaGreatT1
import Derived.Test.YtomijmikkbhgmaaGreatLm
import Derived.Test.YtomijmikkbhgmaaGreatT29
namespace Go.Proofs.YtomijmikkbhgmaaGreat
open Go.RowKit

theorem srcG_yes {y z : Evt} (l : List Evt) (i : Nat) (a : Int) (h1 : (z.kind == 0) = true) (h2 : (z.thread == y.thread) = true) (h3 : (z.ins.reg == y.ins.reg) = true) : srcG y (z :: l) i a = srcG y l (i + 1) (i : Int) := by rw [srcG, h1, h2, h3]; rfl
theorem srcG_no {y z : Evt} (l : List Evt) (i : Nat) (a : Int) (h : (z.kind == 0 && z.thread == y.thread && z.ins.reg == y.ins.reg) = false) : srcG y (z :: l) i a = srcG y l (i + 1) a := by rw [srcG, h]; rfl

set_option maxRecDepth 20000 in
set_option maxHeartbeats 1000000 in
theorem holdsR_any (E : List Evt) (hE : E.length ≤ 96) (th rg : Int) (v : Value) (w : World) (hev : Ev9At w v E) :
    Calls Tryz.prog 78 #[v, .int .i64 th, .int .i64 rg] w fun e w' => e = .returned (.int .i64 (srcG (evtOf th rg) E 0 (-1))) ∧ Below w.heap.size w w' := by
  obtain ⟨ao, b, off, cap, hv, ha, _, hc⟩ := hev
  subst hv
  have HC : Hid (∀ k y, E[k]? = some y → Ev9C w b (off + k * 9) y) := hc
  have HS : Hid (srcG (evtOf th rg) E 0 (-1) = srcG (evtOf th rg) (E.drop 0) 0 (-1)) := rfl
  generalize srcG (evtOf th rg) E 0 (-1) = S at HS ⊢
  clear hc
  go_enter Tryz.func78, Tryz.ntmps78
  go_wp2_with fail
  go_loop [7, 8] (fun at' i => ∃ (k : Nat) (a : Int), k ≤ E.length ∧ i = .int .i64 k ∧ at' = .int .i64 a ∧ Hid (S = srcG (evtOf th rg) (E.drop k) k a)) (fun _ i => E.length - (intOf i).toNat)
  case atStart => exact ⟨0, -1, Nat.zero_le _, rfl, rfl, HS.out⟩
  case round =>
    clear HS
    obtain ⟨k, a, hk, rfl, rfl, hn⟩ := hrel
    by_cases hlt : k < E.length
    · obtain ⟨z, hz⟩ := get_of_lt hlt
      obtain rfl := ha (ne_nil hlt)
      obtain ⟨c0, _, c2, _, _, _, c6, _, _⟩ := HC.out k z hz
      have hkI : (k : Int) < (E.length : Int) := by omega
      have HN : Hid (S = srcG (evtOf th rg) (z :: E.drop (k + 1)) k a) := hn.out.trans (by rw [drop_cons hz])
      clear hn hz
      cases h2 : z.thread == th
      · have HM : Hid (S = srcG (evtOf th rg) (E.drop (k + 1)) (k + 1) a) := HN.out.trans (srcG_no _ _ _ (by show (z.kind == 0 && z.thread == th && _) = false; rw [h2]; simp))
        go_wp2_with fail
        go_round
        case measure => simp [intOf]; omega
        case rel => exact ⟨k + 1, a, by omega, by go_num, rfl, HM.out⟩
      · cases h1 : z.kind == 0
        · have HM : Hid (S = srcG (evtOf th rg) (E.drop (k + 1)) (k + 1) a) := HN.out.trans (srcG_no _ _ _ (by rw [h1]; simp))
          go_wp2_with fail
          go_round
          case measure => simp [intOf]; omega
          case rel => exact ⟨k + 1, a, by omega, by go_num, rfl, HM.out⟩
        · cases h3 : z.ins.reg == rg
          · have HM : Hid (S = srcG (evtOf th rg) (E.drop (k + 1)) (k + 1) a) := HN.out.trans (srcG_no _ _ _ (by show (_ && _ && z.ins.reg == rg) = false; rw [h3]; simp))
            go_wp2_with fail
            go_round
            case measure => simp [intOf]; omega
            case rel => exact ⟨k + 1, a, by omega, by go_num, rfl, HM.out⟩
          · have HM : Hid (S = srcG (evtOf th rg) (E.drop (k + 1)) (k + 1) (k : Int)) := HN.out.trans (srcG_yes _ _ _ h1 h2 h3)
            go_wp2_with fail
            go_round
            case measure => simp [intOf]; omega
            case rel => exact ⟨k + 1, k, by omega, by go_num, rfl, HM.out⟩
    · have HM : Hid (S = a) := hn.out.trans (by rw [drop_nil hlt]; rfl)
      have hkI : (E.length : Int) ≤ (k : Int) := by omega
      clear hn
      go_wp2_with fail
      go_ret
      exact ⟨by rw [HM.out]; rfl, Below.refl _ _⟩

/-- The registers of the first i threads, and of the next one the first r. -/
def regL (E : List Evt) (S : Nat → Int) (i r : Nat) : List Int := ((List.range i).flatMap fun i => (List.range 3).map (regV E S i)) ++ (List.range r).map (regV E S i)
theorem regL_step (E : List Evt) (S : Nat → Int) (i r : Nat) : regL E S i (r + 1) = regL E S i r ++ [regV E S i r] := by unfold regL; rw [List.range_succ (n := r), List.map_append]; simp
theorem regL_next (E : List Evt) (S : Nat → Int) (i : Nat) : regL E S (i + 1) 0 = regL E S i 3 := by unfold regL; rw [List.range_succ (n := i), List.flatMap_append]; simp
theorem regL_len (E : List Evt) (S : Nat → Int) (i r : Nat) : (regL E S i r).length = 3 * i + r := by
  unfold regL
  rw [List.length_append, List.length_map, List.length_range, flat_len _ 3 (fun _ => by simp), List.length_range]; omega

theorem srcE {E : List Evt} (y : Evt) : EvI E.length (srcG y E 0 (-1)) := by
  rcases srcG_range y E 0 (-1) (.inl rfl) with h | ⟨a, h1, h2⟩
  · exact .inl h
  · exact .inr ⟨a, h1, by omega⟩

set_option maxRecDepth 20000 in
set_option maxHeartbeats 2000000 in
theorem state_any (T : List (List Ins)) (hT : T.length ≤ 4) (fa : Bool) (c : List Atm) (vt vc : Value) (E : List Evt) (hE : E.length ≤ 96) (x : Exe) (hf : x.from'.length = (rdsX E 0).length) (hr : ∀ f ∈ x.from', EvI E.length f) (h3 : x.order.length = 3) (ho : ∀ l ∈ x.order, l.length ≤ 96 ∧ ∀ a ∈ l, EvI E.length a) (v vf vo : Value) (w : World) (ht : TestAt w (.agg #[vt, .bool fa, vc]) T fa c vt vc) (hev : Ev9At w v E) (hx : ExeAt w vf vo x) :
    Calls Tryz.prog 41 #[.agg #[vt, .bool fa, vc], v, .agg #[vf, vo]] w fun e w' => ∃ u, e = .returned u ∧ IntNew w.heap.size w' u (staL T.length E (fun r => frG ((rdsX E 0).zip x.from') (r : Int)) x) ∧ Below w.heap.size w w' := by
  have HV : Hid (∀ (i : Int) (w' : World), EvI E.length i → Below w.heap.size w w' → Calls Tryz.prog 77 #[v, .agg #[vf, vo], .int .i64 i, .int .i64 (2 * E.length : Nat)] w' fun e w'' => e = .returned (.int .i64 (valN E (fun r => frG ((rdsX E 0).zip x.from') (r : Int)) (2 * E.length) i)) ∧ Below w'.heap.size w' w'') := fun i w' hi hb => value_any E hE x hf hr (2 * E.length) (by omega) i hi v vf vo w' (hev.keep hb) (hx.keep hb)
  have HH : Hid (∀ (i r : Nat) (w' : World), Below w.heap.size w w' → Calls Tryz.prog 78 #[v, .int .i64 i, .int .i64 r] w' fun e w'' => e = .returned (.int .i64 (srcG (evtOf i r) E 0 (-1))) ∧ Below w'.heap.size w' w'') := fun i r w' hb => holdsR_any E hE i r v w' (hev.keep hb)
  have HRV : Hid (∀ i r : Nat, regV E (fun r => frG ((rdsX E 0).zip x.from') (r : Int)) i r = valN E (fun r => frG ((rdsX E 0).zip x.from') (r : Int)) (2 * E.length) (srcG (evtOf i r) E 0 (-1))) := fun _ _ => rfl
  have HST : Hid (staL T.length E (fun r => frG ((rdsX E 0).zip x.from') (r : Int)) x = regL E (fun r => frG ((rdsX E 0).zip x.from') (r : Int)) T.length 0 ++ (List.range 3).map (locV E (fun r => frG ((rdsX E 0).zip x.from') (r : Int)) x)) := by show _ = _; unfold staL regL; simp
  have HLV : Hid (∀ (j : Nat) (l : List Int), x.order[j]? = some l → (l = [] → locV E (fun r => frG ((rdsX E 0).zip x.from') (r : Int)) x j = 0) ∧ ∀ a, l[l.length - 1]? = some a → locV E (fun r => frG ((rdsX E 0).zip x.from') (r : Int)) x j = valN E (fun r => frG ((rdsX E 0).zip x.from') (r : Int)) (2 * E.length) a) := fun j l hl => by
    refine ⟨fun h0 => ?_, fun a ha => ?_⟩
    · unfold locV; rw [List.getD, hl, h0]; rfl
    · unfold locV; rw [List.getD, hl]; simp only [Option.getD_some]; rw [List.getLast?_eq_getElem?, ha]
  generalize hSf : (fun r : Nat => frG ((rdsX E 0).zip x.from') (r : Int)) = S at HV HRV HST HLV ⊢
  obtain ⟨aof, capf, hvf⟩ := hx.f.form
  obtain ⟨aoo, bo, offo, capo, hvo, hao, _, hco⟩ := hx.o
  have HO : Hid (∀ k l, x.order[k]? = some l → LC w bo (offo + k * 1) l) := hco
  obtain ⟨ao, b, off, cap, hv, ha, _, hc⟩ := hev
  obtain ⟨ht0, aot, bt, offt, capt, htv, _⟩ := ht.ht.opened
  subst hv hvf hvo htv
  have HL3 : Hid (x.order.length = 3 ∧ ∀ l ∈ x.order, l.length ≤ 96 ∧ ∀ a ∈ l, EvI E.length a) := ⟨h3, ho⟩
  obtain rfl := hao (by intro h; rw [h] at h3; simp at h3)
  obtain ⟨i0, hi, hz0, hz1, hz2⟩ := info_parts Tryz.info3
  have HI : Hid (Tryz.prog.info? 3 = some i0 ∧ i0.zero = some (.int .i64 0) ∧ i0.size = 1 ∧ i0.bytes = 8) := ⟨hi, hz0, hz1, hz2⟩
  have h2n : (2 : Int) * (E.length : Int) = ((2 * E.length : Nat) : Int) := by simp
  have h2w : IntKind.i64.wrap ((2 * E.length : Nat) : Int) = ((2 * E.length : Nat) : Int) := by rw [IntKind.wrap_i64]; omega
  generalize 2 * E.length = D at HV HRV HLV h2n h2w
  clear hi hz0 hz1 hz2 hx hc ha hco hSf ht hr hf h3 ho hao
  go_enter Tryz.func41, Tryz.ntmps41
  go_wp2_with fail
  have hba := below_two w (.cells #[.slice aot T.length capt, .bool fa, vc] 25) (.cells #[.slice aof x.from'.length capf, .slice (some ⟨bo, offo, none⟩) x.order.length capo] 29)
  have HBX : Hid (∀ w', Below (w.heap.size + 1 + 1) ((w.alloc (.cells #[.slice aot T.length capt, .bool fa, vc] 25)).alloc (.cells #[.slice aof x.from'.length capf, .slice (some ⟨bo, offo, none⟩) x.order.length capo] 29)) w' → w'.cell? ⟨w.heap.size, 0, none⟩ = some (.slice aot T.length capt) ∧ w'.cell? ⟨w.heap.size + 1, 0, none⟩ = some (.slice aof x.from'.length capf) ∧ w'.cell? ⟨w.heap.size + 1, 1, none⟩ = some (.slice (some ⟨bo, offo, none⟩) x.order.length capo)) := fun w' hb => by
    have h1 := hb.cell (p := ⟨w.heap.size, 0, none⟩) (by first | (simp; done) | (simp; omega))
    have h4 := hb.cell (p := ⟨w.heap.size + 1, 0, none⟩) (by simp)
    have h5 := hb.cell (p := ⟨w.heap.size + 1, 1, none⟩) (by simp)
    exact ⟨h1.trans (by simp), h4.trans (by simp), h5.trans (by simp)⟩
  have hsW : ((w.alloc (.cells #[.slice aot T.length capt, .bool fa, vc] 25)).alloc (.cells #[.slice aof x.from'.length capf, .slice (some ⟨bo, offo, none⟩) x.order.length capo] 29)).heap.size = w.heap.size + 1 + 1 := by simp
  generalize (w.alloc (.cells #[.slice aot T.length capt, .bool fa, vc] 25)).alloc (.cells #[.slice aof x.from'.length capf, .slice (some ⟨bo, offo, none⟩) x.order.length capo] 29) = W at hba HBX hsW ⊢
  rw [← hsW] at HBX
  clear hsW
  go_loopw [7, 8] (fun u i wr => ∃ k : Nat, k ≤ T.length ∧ i = .int .i64 k ∧ wr.ownsRow W.heap.size 3 1 u (regL E S k 0).length ((regL E S k 0).map (Value.int .i64)) ∧ Below W.heap.size W wr) (fun _ i _ => T.length - (intOf i).toNat)
  case atStart => exact ⟨0, Nat.zero_le _, rfl, World.ownsRow_nil _ _ _ _, Below.refl _ _⟩
  case round =>
    obtain ⟨k, hk, rfl, hown, hb⟩ := hrel
    obtain ⟨t0, x0, x1⟩ := HBX.out wr hb
    have HOW : Hid (wr.ownsRow W.heap.size 3 1 u7 (regL E S k 0).length ((regL E S k 0).map (Value.int .i64))) := hown
    clear hown
    by_cases hlt : k < T.length
    · have hkI : (k : Int) < (T.length : Int) := by omega
      go_wp2_with fail
      clear t0 x0 x1
      go_loopw [7, 9] (fun u i wr => ∃ r : Nat, r ≤ 3 ∧ i = .int .i64 r ∧ Hid (wr.ownsRow W.heap.size 3 1 u (regL E S k r).length ((regL E S k r).map (Value.int .i64))) ∧ Below W.heap.size W wr) (fun _ i _ => 3 - (intOf i).toNat)
      case atStart => exact ⟨0, by omega, rfl, HOW.out, hb⟩
      case round =>
        clear HOW hb
        obtain ⟨r, hr3, rfl, hown, hb⟩ := hrel
        obtain ⟨t0, x0, x1⟩ := HBX.out wr hb
        have hbw := below_more hba hb
        by_cases hr : r < 3
        · have hrI : (r : Int) < 3 := by omega
          have HSE : Hid (EvI E.length (srcG (evtOf k r) E 0 (-1))) := srcE _
          have HH1 : Hid (∀ w', Below w.heap.size w w' → Calls Tryz.prog 78 #[.slice ao E.length cap, .int .i64 k, .int .i64 r] w' fun e w'' => e = .returned (.int .i64 (srcG (evtOf k r) E 0 (-1))) ∧ Below w'.heap.size w' w'') := fun w' hb => HH.out k r w' hb
          have HR1 : Hid (regL E S k (r + 1) = regL E S k r ++ [valN E S D (srcG (evtOf k r) E 0 (-1))]) := by show _ = _; rw [regL_step, HRV.out]
          have hlen : (regL E S k r).length ≤ 100 := by rw [regL_len]; omega
          generalize srcG (evtOf k r) E 0 (-1) = sr at HSE HH1 HR1
          have HV1 : Hid (∀ w', Below w.heap.size w w' → Calls Tryz.prog 77 #[.slice ao E.length cap, .agg #[.slice aof x.from'.length capf, .slice (some ⟨bo, offo, none⟩) x.order.length capo], .int .i64 sr, .int .i64 D] w' fun e w'' => e = .returned (.int .i64 (valN E S D sr)) ∧ Below w'.heap.size w' w'') := fun w' hb => HV.out sr w' HSE.out hb
          generalize valN E S D sr = val at HR1 HV1
          generalize regL E S k r = xs at hown HR1 hlen
          have HO1 := hown
          clear hown t0
          replace x0 := grown_cell x0
          replace x1 := grown_cell x1
          have hne := grw_some wr
          go_wp2_with fail
          refine wp_region_grown (by kernel_rfl) (by kernel_rfl) ?_
          repeat (go_big_quiet_step (first | (go_at_call 78; exact grown_call (HH1.out _ (below_more hbw (Grw.low _)))) | (go_at_call 77; exact grown_call (HV1.out _ (below_more hbw (Grw.low _))))))
          refine wpQuiet_nil ?_
          intro w7 hw7
          obtain ⟨⟨w7', hb7⟩, rfl⟩ := hw7
          clear x0 x1
          have HO7 : Hid (w7.ownsRow W.heap.size 3 1 u7 xs.length (xs.map (Value.int .i64))) := own_keep HO1.out hb7
          have hb8 := below_more hb hb7
          have hs8 := hb8.size
          clear HO1 hb hb7
          go_wp2_with (at_builtin; refine append_new _ rfl _ _ 26 rfl W.heap.size 3 i0 (.int .i64 0) 1 8 Tryz.underlying26 HI.out.1 HI.out.2.1 HI.out.2.2.1 HI.out.2.2.2 rfl (by decide) _ xs.length (xs.map (Value.int .i64)) rfl (HO7.out.alloc _) (some ⟨w7.heap.size, 0, none⟩) 1 1 [.int .i64 val] rfl (fun h => by cases h) rfl (fun ad had => by cases had; exact new_one rfl) (by simp [Value.oneCell']) (by unfold maxLen; omega) (by omega) (by simp; omega) ?_)
          intro u' w9 hown' hgrow _
          have hb9 : Below W.heap.size W w9 := Below.grown (hb8.alloc hs8 _) hgrow (by simp; omega) (fun kk e => (HO7.out.lt kk e).1)
          have HO9 : Hid (w9.ownsRow W.heap.size 3 1 u' (regL E S k (r + 1)).length ((regL E S k (r + 1)).map (Value.int .i64))) := by rw [HR1.out]; exact own_snoc hown'
          clear hgrow hown'
          go_wp2_with fail
          go_roundw
          case measure => simp [intOf]; omega
          case rel => exact ⟨r + 1, by omega, by go_num, HO9.out, hb9⟩
        · have hr2 : r = 3 := by omega
          subst hr2
          have HO1 : Hid (wr.ownsRow W.heap.size 3 1 u7 (regL E S (k + 1) 0).length ((regL E S (k + 1) 0).map (Value.int .i64))) := by rw [regL_next]; exact hown.out
          clear hown
          go_wp2_with fail
          go_roundw
          case measure => simp [intOf]; omega
          case rel => exact ⟨k + 1, by omega, by go_num, HO1.out, hb⟩
    · have hkk : k = T.length := by omega
      have hkI : (T.length : Int) ≤ (k : Int) := by omega
      have HRG : Hid (staL T.length E S x = regL E S k 0 ++ (List.range 3).map (locV E S x)) := by rw [HST.out, hkk]; exact rfl
      have hrgl : (regL E S k 0).length ≤ 100 := by rw [regL_len]; omega
      generalize regL E S k 0 = RG at HOW HRG hrgl
      clear hkk
      have HO0 : Hid (wr.ownsRow W.heap.size 3 1 u7 (RG ++ (List.range 0).map (locV E S x)).length ((RG ++ (List.range 0).map (locV E S x)).map (Value.int .i64))) := by
        show wr.ownsRow W.heap.size 3 1 u7 (RG ++ []).length ((RG ++ []).map (Value.int .i64))
        rw [List.append_nil]; exact HOW.out
      clear HOW
      go_wp2_with fail
      clear t0 x0 x1
      go_loopw [7, 11] (fun u i wr => ∃ j : Nat, j ≤ 3 ∧ i = .int .i64 j ∧ Hid (wr.ownsRow W.heap.size 3 1 u (RG ++ (List.range j).map (locV E S x)).length ((RG ++ (List.range j).map (locV E S x)).map (Value.int .i64))) ∧ Below W.heap.size W wr) (fun _ i _ => 3 - (intOf i).toNat)
      case atStart => exact ⟨0, by omega, rfl, HO0.out, hb⟩
      case round =>
        clear HO0 hb
        obtain ⟨j, hj, rfl, hown, hb⟩ := hrel
        obtain ⟨t0, x0, x1⟩ := HBX.out wr hb
        have hbw := below_more hba hb
        by_cases hj3 : j < 3
        · obtain ⟨l, hl⟩ := get_of_lt (l := x.order) (k := j) (by have := HL3.out.1; omega)
          obtain ⟨hl96, hlE⟩ := HL3.out.2 l (List.mem_of_getElem? hl)
          obtain ⟨ul, c0, ivl⟩ := lc_keeps _ _ _ _ _ hbw (HO.out j l hl)
          rw [Nat.mul_one] at c0
          obtain ⟨aol, bl, offl, capl, hvl, hal, _, hcl⟩ := ivl
          subst hvl
          have hjI : (j : Int) < (x.order.length : Int) := by have := HL3.out.1; omega
          have hj3I : (j : Int) < 3 := by omega
          have HLS : Hid (RG ++ (List.range (j + 1)).map (locV E S x) = (RG ++ (List.range j).map (locV E S x)) ++ [locV E S x j]) := by show _ = _; rw [List.range_succ (n := j), List.map_append]; simp
          have hxsl : (RG ++ (List.range j).map (locV E S x)).length ≤ 200 := by rw [List.length_append, List.length_map, List.length_range]; omega
          obtain ⟨hlv0, hlv1⟩ := HLV.out j l hl
          generalize RG ++ (List.range j).map (locV E S x) = xs at hown HLS hxsl
          have HO1 := hown
          clear hown t0
          by_cases hl0 : l = []
          · subst hl0
            have HLZ : Hid (locV E S x j = 0) := hlv0 rfl
            have hsz := hb.size
            clear hlv0 hlv1 hcl hl hal hlE
            go_wp2_with (at_builtin; refine append_new _ rfl _ _ 26 rfl W.heap.size 3 i0 (.int .i64 0) 1 8 Tryz.underlying26 HI.out.1 HI.out.2.1 HI.out.2.2.1 HI.out.2.2.2 rfl (by decide) _ xs.length (xs.map (Value.int .i64)) rfl (HO1.out.alloc _) (some ⟨wr.heap.size, 0, none⟩) 1 1 [.int .i64 0] rfl (fun h => by cases h) rfl (fun ad had => by cases had; exact new_one rfl) (by simp [Value.oneCell']) (by unfold maxLen; omega) (by omega) (by simp; omega) ?_)
            intro u' w9 hown' hgrow _
            have hb9 : Below W.heap.size W w9 := Below.grown (hb.alloc hsz _) hgrow (by simp; omega) (fun kk e => (HO1.out.lt kk e).1)
            have HO9 : Hid (w9.ownsRow W.heap.size 3 1 u' (RG ++ (List.range (j + 1)).map (locV E S x)).length ((RG ++ (List.range (j + 1)).map (locV E S x)).map (Value.int .i64))) := by rw [HLS.out, HLZ.out]; exact own_snoc hown'
            clear hgrow hown'
            go_wp2_with fail
            go_roundw
            case measure => simp [intOf]; omega
            case rel => exact ⟨j + 1, by omega, by go_num, HO9.out, hb9⟩
          · have hlp : 0 < l.length := List.length_pos_iff.2 hl0
            obtain ⟨a, hal1⟩ := get_of_lt (l := l) (k := l.length - 1) (by omega)
            obtain rfl := hal hl0
            have HLA : Hid (locV E S x j = valN E S D a) := hlv1 a hal1
            have HAE : Hid (EvI E.length a) := hlE a (List.mem_of_getElem? hal1)
            have q0 := hcl _ _ hal1
            unfold IntC at q0
            rw [Nat.mul_one] at q0
            have HV1 : Hid (∀ w', Below w.heap.size w w' → Calls Tryz.prog 77 #[.slice ao E.length cap, .agg #[.slice aof x.from'.length capf, .slice (some ⟨bo, offo, none⟩) x.order.length capo], .int .i64 a, .int .i64 D] w' fun e w'' => e = .returned (.int .i64 (valN E S D a)) ∧ Below w'.heap.size w' w'') := fun w' hb => HV.out a w' HAE.out hb
            generalize valN E S D a = val at HLA HV1
            have hlI : (0 : Int) < (l.length : Int) := by omega
            have hd1 : decide ((0 : Int) < (l.length : Int)) = true := by simp; omega
            have hsub : (l.length : Int) - 1 = ((l.length - 1 : Nat) : Int) := by omega
            have hsubI : ((l.length - 1 : Nat) : Int) < (l.length : Int) := by omega
            have hsw : IntKind.i64.wrap ((l.length - 1 : Nat) : Int) = ((l.length - 1 : Nat) : Int) := by rw [IntKind.wrap_i64]; omega
            generalize l.length - 1 = l1 at *
            generalize l.length = ln at *
            clear hlv0 hlv1 hcl hl hal hlE hal1
            go_wp2_with fail
            replace x0 := grown_cell x0
            replace x1 := grown_cell x1
            replace c0 := grown_cell c0
            replace q0 := grown_cell q0
            have hne := grw_some wr
            refine wp_region_grown (by kernel_rfl) (by kernel_rfl) ?_
            repeat (go_big_quiet_step ((go_at_call 77; exact grown_call (HV1.out _ (below_more hbw (Grw.low _))))))
            refine wpQuiet_nil ?_
            intro w7 hw7
            obtain ⟨⟨w7', hb7⟩, rfl⟩ := hw7
            clear x0 x1 c0 q0
            have HO7 : Hid (w7.ownsRow W.heap.size 3 1 u7 xs.length (xs.map (Value.int .i64))) := own_keep HO1.out hb7
            have hb8 := below_more hb hb7
            have hs8 := hb8.size
            clear HO1 hb hb7
            go_wp2_with (at_builtin; refine append_new _ rfl _ _ 26 rfl W.heap.size 3 i0 (.int .i64 0) 1 8 Tryz.underlying26 HI.out.1 HI.out.2.1 HI.out.2.2.1 HI.out.2.2.2 rfl (by decide) _ xs.length (xs.map (Value.int .i64)) rfl (HO7.out.alloc _) (some ⟨w7.heap.size, 0, none⟩) 1 1 [.int .i64 val] rfl (fun h => by cases h) rfl (fun ad had => by cases had; exact new_one rfl) (by simp [Value.oneCell']) (by unfold maxLen; omega) (by omega) (by simp; omega) ?_)
            intro u' w9 hown' hgrow _
            have hb9 : Below W.heap.size W w9 := Below.grown (hb8.alloc hs8 _) hgrow (by simp; omega) (fun kk e => (HO7.out.lt kk e).1)
            have HO9 : Hid (w9.ownsRow W.heap.size 3 1 u' (RG ++ (List.range (j + 1)).map (locV E S x)).length ((RG ++ (List.range (j + 1)).map (locV E S x)).map (Value.int .i64))) := by rw [HLS.out, HLA.out]; exact own_snoc hown'
            clear hgrow hown'
            go_wp2_with fail
            go_roundw
            case measure => simp [intOf]; omega
            case rel => exact ⟨j + 1, by omega, by go_num, HO9.out, hb9⟩
        · have hj2 : j = 3 := by omega
          subst hj2
          have HO1 := hown
          clear hown
          go_wp2_with fail
          go_ret
          have hsz := hba.size
          exact ⟨_, rfl, by rw [HRG.out]; exact owns_int (own_base HO1.out hsz), hbw⟩

end Go.Proofs.YtomijmikkbhgmaaGreat

namespace Go.Proofs.YtomijmikkbhgmaaGreat
open Go.RowKit

theorem IsEx.evI {E : List Evt} {x : Exe} (h : IsEx E x) : (∀ f ∈ x.from', EvI E.length f) ∧ ∀ l ∈ x.order, ∀ a ∈ l, EvI E.length a := by
  have hw : ∀ {a loc : Int}, a ∈ wrs E 0 loc → EvI E.length a := fun ha => by
    obtain ⟨i, y, h1, h2, _⟩ := wrs_iff.1 ha
    exact .inr ⟨i, h2, (List.getElem?_eq_some_iff.1 h1).1⟩
  constructor
  · intro f hf
    obtain ⟨j, hj⟩ := List.mem_iff_getElem?.1 hf
    have hjl : j < (rdsX E 0).length := by rw [← h.f]; exact (List.getElem?_eq_some_iff.1 hj).1
    obtain ⟨q, hq⟩ := get_of_lt hjl
    have hz : ((rdsX E 0).zip x.from')[j]? = some (q, f) := by rw [List.getElem?_zip_eq_some]; exact ⟨hq, hj⟩
    rcases h.fw (q, f) (List.mem_of_getElem? hz) with e | e
    · exact .inl e
    · exact hw e
  · intro l hl a ha
    obtain ⟨j, hj⟩ := List.mem_iff_getElem?.1 hl
    exact hw (((h.od j l hj).2 a).1 ha)

/-- What State tells, where Judge tells r and jr. -/
def SOut (T : List (List Ins)) (x : Exe) (B : Nat) (w : World) (r jr : Int) (u : Value) (er : Int) : Prop :=
  (jr ≠ 0 ∧ er = jr ∧ u = .slice none 0 0) ∨ (jr = 0 ∧ r ≠ 0 ∧ er = 8 ∧ u = .slice none 0 0) ∨
  (jr = 0 ∧ r = 0 ∧ er = 0 ∧ IntNew B w u (staL T.length (evsT T 0) (fun r => frG ((rdsX (evsT T 0) 0).zip x.from') (r : Int)) x))

theorem IntNew.less {B B' : Nat} {w : World} {v : Value} {l : List Int} (h : IntNew B w v l) (hb : B' ≤ B) : IntNew B' w v l := by
  obtain ⟨ao, b, off, cap, h, h1, h2⟩ := h
  exact ⟨ao, b, off, cap, h, Nat.le_trans hb h1, h2⟩

set_option maxRecDepth 20000 in
set_option maxHeartbeats 1000000 in
theorem stateR_of (T : List (List Ins)) (fa : Bool) (c : List Atm) (vt vc : Value) (x : Exe) (vf vo : Value) (w : World) (h : TestAt w (.agg #[vt, .bool fa, vc]) T fa c vt vc) (hx : ExeAt w vf vo x) (J : Int → Int → Prop)
    (hj : ∀ w', Below w.heap.size w w' → Calls Tryz.prog 31 #[.agg #[vt, .bool fa, vc], .agg #[vf, vo]] w' fun e w'' => ∃ r er : Int, e = .returned (.tuple #[.int .i64 r, .int .i64 er]) ∧ J r er ∧ Below w'.heap.size w' w'')
    (hj0 : ∀ r, J r 0 → T.length ≤ 4 ∧ lensB T = true ∧ (evsT T 0).length ≤ 96 ∧ IsEx (evsT T 0) x) :
    Calls Tryz.prog 19 #[.agg #[vt, .bool fa, vc], .agg #[vf, vo]] w fun e w' => ∃ (r jr : Int) (u : Value) (er : Int), e = .returned (.tuple #[u, .int .i64 er]) ∧ J r jr ∧ SOut T x w.heap.size w' r jr u er ∧ Below w.heap.size w w' := by
  have HT : Hid (TestAt w (.agg #[vt, .bool fa, vc]) T fa c vt vc ∧ ExeAt w vf vo x) := ⟨h, hx⟩
  have HJ : Hid (∀ w', Below w.heap.size w w' → Calls Tryz.prog 31 #[.agg #[vt, .bool fa, vc], .agg #[vf, vo]] w' fun e w'' => ∃ r er : Int, e = .returned (.tuple #[.int .i64 r, .int .i64 er]) ∧ J r er ∧ Below w'.heap.size w' w'') := hj
  have HJ0 : Hid (∀ r, J r 0 → T.length ≤ 4 ∧ lensB T = true ∧ (evsT T 0).length ≤ 96 ∧ IsEx (evsT T 0) x) := hj0
  clear h hx hj hj0
  go_enter Tryz.func19, Tryz.ntmps19
  go_wp2_with fail
  have hba := below_two w (.cells #[vt, .bool fa, vc] 25) (.cells #[vf, vo] 29)
  refine (HJ.out _ hba).mono ?_
  rintro e w3 ⟨r, jr, rfl, hjr, hb3⟩
  have hbw3 := below_more hba hb3
  have HK : Hid (∀ w', Below w3.heap.size w3 w' → w'.cell? ⟨w.heap.size, 0, none⟩ = some vt ∧ w'.cell? ⟨w.heap.size, 1, none⟩ = some (.bool fa) ∧ w'.cell? ⟨w.heap.size, 2, none⟩ = some vc ∧ w'.cell? ⟨w.heap.size + 1, 0, none⟩ = some vf ∧ w'.cell? ⟨w.heap.size + 1, 1, none⟩ = some vo) := fun w' hb => by
    have t0 := keep_cell hb3 (b := w.heap.size) (off := 0) (u := vt) (by simp)
    have t1 := keep_cell hb3 (b := w.heap.size) (off := 1) (u := .bool fa) (by simp)
    have t2 := keep_cell hb3 (b := w.heap.size) (off := 2) (u := vc) (by simp)
    have x0 := keep_cell hb3 (b := w.heap.size + 1) (off := 0) (u := vf) (by simp)
    have x1 := keep_cell hb3 (b := w.heap.size + 1) (off := 1) (u := vo) (by simp)
    exact ⟨keep_cell hb t0, keep_cell hb t1, keep_cell hb t2, keep_cell hb x0, keep_cell hb x1⟩
  have HJR : Hid (J r jr) := hjr
  clear hjr hb3 HJ
  cases hz : jr == 0
  · have hz2 : (jr != 0) = true := by simp [bne, hz]
    have hz3 : jr ≠ 0 := by simpa using hz
    go_wp2_with fail
    go_ret2
    exact ⟨r, jr, _, _, rfl, HJR.out, .inl ⟨hz3, rfl, rfl⟩, hbw3⟩
  · have hz2 : (jr != 0) = false := by simp [bne, hz]
    have hz3 : jr = 0 := by simpa using hz
    have HZ3 : Hid (jr = 0) := hz3
    clear hz3
    cases hr : r == 0
    · have hr2 : (r != 0) = true := by simp [bne, hr]
      have hr3 : r ≠ 0 := by simpa using hr
      go_wp2_with fail
      go_ret2
      exact ⟨r, jr, _, _, rfl, HJR.out, .inr (.inl ⟨HZ3.out, hr3, rfl, rfl⟩), hbw3⟩
    · have hr2 : (r != 0) = false := by simp [bne, hr]
      have HR3 : Hid (r = 0) := by have : r = 0 := by simpa using hr
                                   exact this
      have HEV : Hid (∀ w', Below w3.heap.size w3 w' → Calls Tryz.prog 42 #[.agg #[vt, .bool fa, vc]] w' fun e w'' => ∃ u, e = .returned u ∧ Ev9At w'' u (evsT T 0) ∧ Below w'.heap.size w' w'') := fun w' hb => by
        obtain ⟨h1, h2, h3, h4⟩ := HJ0.out r (by have := HJR.out; rwa [HZ3.out] at this)
        exact events_any T fa c _ vt vc w' (HT.out.1.keep (below_more hbw3 hb)) h1 h2
      have HST : Hid (∀ (u : Value) (w' : World), Below w3.heap.size w3 w' → Ev9At w' u (evsT T 0) → Calls Tryz.prog 41 #[.agg #[vt, .bool fa, vc], u, .agg #[vf, vo]] w' fun e w'' => ∃ v, e = .returned v ∧ IntNew w'.heap.size w'' v (staL T.length (evsT T 0) (fun r => frG ((rdsX (evsT T 0) 0).zip x.from') (r : Int)) x) ∧ Below w'.heap.size w' w'') := fun u w' hb hu => by
        obtain ⟨h1, h2, h3, h4⟩ := HJ0.out r (by have := HJR.out; rwa [HZ3.out] at this)
        refine state_any T h1 fa c vt vc (evsT T 0) h3 x h4.f h4.evI.1 h4.o3 (fun l hl => ⟨?_, h4.evI.2 l hl⟩) u vf vo w' (HT.out.1.keep (below_more hbw3 hb)) hu (HT.out.2.keep (below_more hbw3 hb))
        obtain ⟨j, hj⟩ := List.mem_iff_getElem?.1 hl
        exact h4.len h3 hj
      obtain ⟨t0, t1, t2, x0, x1⟩ := HK.out w3 (Below.refl _ _)
      have HS3 : Hid (w.heap.size ≤ w3.heap.size) := hbw3.size
      go_upto_region 6 with fail
      go_region_with (first | (go_at_call 42; refine (HEV.out _ (Below.refl _ _).drew).mono ?_; rintro e w5 ⟨u5, rfl, hu5, hb5⟩; have hbw5 := (Below.refl _ w3).drew.trans hb5; obtain ⟨f0, f1, f2, g0, g1⟩ := HK.out w5 hbw5) | (go_at_call 41; refine (HST.out _ _ hbw5 hu5).mono ?_; rintro e w6 ⟨u6, rfl, hu6, hb6⟩))
      all_goals
        go_wp2_with fail
        go_ret2
        exact ⟨r, jr, _, _, rfl, HJR.out, .inr (.inr ⟨HZ3.out, HR3.out, rfl, hu6.less (Nat.le_trans HS3.out hbw5.size)⟩), below_more (below_more hbw3 hbw5) hb6⟩

end Go.Proofs.YtomijmikkbhgmaaGreat
