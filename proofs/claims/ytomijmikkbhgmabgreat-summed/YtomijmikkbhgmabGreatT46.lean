import Derived.Test.YtomijmikkbhgmabGreatT45
import Derived.Test.YtomijmikkbhgmabGreatLt
namespace Go.Proofs.YtomijmikkbhgmabGreat
open Go.RowKit

set_option maxRecDepth 20000 in
set_option maxHeartbeats 8000000 in
theorem gathered_core (T : List (List Ins)) (hT : T.length ≤ 4) (fa : Bool) (c : List Atm) (hAt : AtmsOk T.length c) (N : Nat) (hN : N ≤ 2000) (al : Nat → Bool) (ex : Nat → Exe) (st : Nat → List Int) (hst : ∀ k, (st k).length = 3 * T.length + 3) (rj : Nat → Int) (hsay : Says T fa c N al ex st rj) (G B : Nat → Nat) (F : Nat → Int) (KK : Nat → List (List Int × Nat)) (hgat : Gat T.length fa c al st G B F KK) (vt vc : Value) (w : World) (h : TestAt w (.agg #[vt, .bool fa, vc]) T fa c vt vc) :
    Calls Tryz.prog 7 #[.agg #[vt, .bool fa, vc], .int .i64 N] w (GatOut w (G N) (B N) (F N) (KK N)) := by
  have HC1 : Hid (∀ w', Below w.heap.size w w' → Calls Tryz.prog 6 #[.agg #[vt, .bool fa, vc]] w' fun e w'' => ∃ vt' vc', e = .returned (.agg #[vt', .bool fa, vc']) ∧ Hid (TestAt w'' (.agg #[vt', .bool fa, vc']) T fa c vt' vc') ∧ Below w'.heap.size w' w'') := fun w' hb => copy_any T fa c _ vt vc w' (h.keep hb)
  have HADD : Hid (∀ (k : Nat) (V O : Value) (vs : List Value) (u : Value) (w' : World), k < N → al k = true → Below w.heap.size w w' → SumAt (w.heap.size + 1) w' (w.heap.size + 1) (G k) (B k) (F k) V O ((KK k).map (·.1)) ((KK k).map (·.2)) vs → IntAt w' u (st k) → (∀ j, u.ownBlock = some j → j < w'.heap.size ∧ j ≠ w.heap.size + 1 ∧ V.ownBlock ≠ some j ∧ O.ownBlock ≠ some j) →
      Calls Tryz.prog 23 #[.pointer (some ⟨w.heap.size + 1, 0, none⟩), .agg #[vt, .bool fa, vc], .int .i64 k, u] w' (AddOut (w.heap.size + 1) w' (w.heap.size + 1) (G (k + 1)) (B (k + 1)) (F (k + 1)) (KK (k + 1)))) := fun k V O vs u w' hk ha hb hS hu hub => by
    obtain ⟨y1, y2, y3, y4⟩ := hgat.yes k ha
    obtain ⟨z1, z2, z3, z4, z5⟩ := hgat.fit k
    rw [y1, y2, y3, y4]
    exact addS_any T hT fa c hAt vt vc (KK k) (by omega) (fun p hp => by have := z4 p hp; omega) (fun p hp => by have := z5 p hp; omega) (st k) (hst k) k (by omega) (G k) (B k) (by omega) (by omega) (F k) _ V O vs u _ w' (h.keep hb) hS hu hub
  have HSAY : Hid (Says T fa c N al ex st rj) := hsay
  have HGAT : Hid (Gat T.length fa c al st G B F KK) := hgat
  have HOUT : Hid (∀ e w', (∃ R V O vs, e = .returned (.tuple #[.pointer (some ⟨R, 0, none⟩), .bool true]) ∧ SumAt (w.heap.size + 1) w' R (G N) (B N) (F N) V O ((KK N).map (·.1)) ((KK N).map (·.2)) vs ∧ Below w.heap.size w w') → GatOut w (G N) (B N) (F N) (KK N) e w') := fun _ _ h => h
  generalize GatOut w (G N) (B N) (F N) (KK N) = GO at HOUT ⊢
  have HSL : Hid (∀ k, (st k).length = 3 * T.length + 3) := hst
  obtain ⟨ht0, aot, bt, offt, capt, htv, _⟩ := h.ht.opened
  obtain ⟨hc0, aoc, bc, offc, capc, hsc⟩ := h.hc
  have hcv := hsc.hv
  subst htv hcv
  clear h hsc hsay hgat hst hAt
  go_enter Tryz.func7, Tryz.ntmps7
  go_wp2_with fail
  have hba := below_alloc w (.cells #[.slice aot T.length capt, .bool fa, .slice aoc c.length capc] 25)
  have HTC : Hid (∀ w', Below (w.heap.size + 1) (w.alloc (.cells #[.slice aot T.length capt, .bool fa, .slice aoc c.length capc] 25)) w' → w'.cell? ⟨w.heap.size, 0, none⟩ = some (.slice aot T.length capt) ∧ w'.cell? ⟨w.heap.size, 1, none⟩ = some (.bool fa) ∧ w'.cell? ⟨w.heap.size, 2, none⟩ = some (.slice aoc c.length capc)) := fun w' hb => by
    have h1 := hb.cell (p := ⟨w.heap.size, 0, none⟩) (by simp)
    have h2 := hb.cell (p := ⟨w.heap.size, 1, none⟩) (by simp)
    have h3 := hb.cell (p := ⟨w.heap.size, 2, none⟩) (by simp)
    exact ⟨h1.trans (by simp), h2.trans (by simp), h3.trans (by simp)⟩
  go_loopw [7] (fun n wr => ∃ (k : Nat) (V O : Value) (vs : List Value), k ≤ N ∧ n = .int .i64 k ∧ Hid (SumAt (w.heap.size + 1) wr (w.heap.size + 1) (G k) (B k) (F k) V O ((KK k).map (·.1)) ((KK k).map (·.2)) vs) ∧ Below (w.heap.size + 1) (w.alloc (.cells #[.slice aot T.length capt, .bool fa, .slice aoc c.length capc] 25)) wr) (fun n _ => N - (intOf n).toNat)
  case atStart =>
    refine ⟨0, .slice none 0 0, .slice none 0 0, [], Nat.zero_le _, rfl, ?_, ?_⟩
    · obtain ⟨z1, z2, z3, z4⟩ := HGAT.out.zer
      show SumAt _ _ _ _ _ _ _ _ _ _ _
      rw [z1, z2, z3, z4]
      refine ⟨?_, Nat.le_refl _, by simp, World.ownsRow_nil _ _ _ _, World.ownsRow_nil _ _ _ _, fun j s hs => by simp at hs, by simp [Value.ownBlock], by simp [Value.ownBlock], fun k e => by simp [Value.ownBlock] at e⟩
      have := heap_alloc_new (w.alloc (.cells #[.slice aot T.length capt, .bool fa, .slice aoc c.length capc] 25)) (.cells #[.int .i64 0, .int .i64 0, .int .i64 (-1), .slice none 0 0, .slice none 0 0] 39)
      simpa using this
    · simpa using below_alloc (w.alloc (.cells #[.slice aot T.length capt, .bool fa, .slice aoc c.length capc] 25)) _
  case round =>
    obtain ⟨k, V, O, vs, hk, rfl, HS, hb⟩ := hrel
    by_cases hlt : k < N
    · have hkI : (k : Int) < (N : Int) := by omega
      have hbw : Below w.heap.size w wr := hba.trans (hb.mono (by omega))
      have hsr := hb.size
      have hsr1 : w.heap.size + 1 ≤ wr.heap.size := by simpa using hsr
      obtain ⟨t0, t1, t2⟩ := HTC.out wr hb
      go_wp2_with fail
      refine (HC1.out wr hbw).mono ?_
      rintro e w3 ⟨vt3, vc3, rfl, ht3, hb3⟩
      go_wp2_with fail
      refine (HSAY.out.cand k w3 vt3 vc3 hlt ht3.out).mono ?_
      rintro e w4 ⟨vf4, vo4, rfl, hx4, hb4⟩
      have hb34 := below_more hb3 hb4
      obtain ⟨aof, cf, hf4⟩ := hx4.out.f.form
      obtain ⟨aoo, bo, offo, co, hso⟩ := hx4.out.o
      have hvo := hso.hv
      subst hf4 hvo
      generalize (ex k).from'.length = lf at *
      generalize (ex k).order.length = lo at *
      clear ht3 hb3 hb4 t0 t1 t2 hso
      go_upto_region 6 with fail
      have hb45 := below_alloc w4 (.cells #[.slice aof lf cf, .slice aoo lo co] 47)
      have x0 : (w4.alloc (.cells #[.slice aof lf cf, .slice aoo lo co] 47)).cell? ⟨w4.heap.size, 0, none⟩ = some (.slice aof lf cf) := by simp
      have x1 : (w4.alloc (.cells #[.slice aof lf cf, .slice aoo lo co] 47)).cell? ⟨w4.heap.size, 1, none⟩ = some (.slice aoo lo co) := by simp
      obtain ⟨w5, hw5⟩ : ∃ x, x = w4.alloc (.cells #[.slice aof lf cf, .slice aoo lo co] 47) := ⟨_, rfl⟩
      rw [← hw5] at hb45 x0 x1 ⊢
      clear hw5
      have hbr5 := below_more hb34 hb45
      have hb5 := hb.trans (hbr5.mono hsr1)
      have hbw5 := below_more hbw hbr5
      have HX5 : Hid (ExeAt w5 (.slice aof lf cf) (.slice aoo lo co) (ex k)) := hx4.out.keep hb45
      have HTX : Hid (∀ w', Below w5.heap.size w5 w' → w'.cell? ⟨w.heap.size, 0, none⟩ = some (.slice aot T.length capt) ∧ w'.cell? ⟨w.heap.size, 1, none⟩ = some (.bool fa) ∧ w'.cell? ⟨w.heap.size, 2, none⟩ = some (.slice aoc c.length capc) ∧ w'.cell? ⟨w4.heap.size, 0, none⟩ = some (.slice aof lf cf) ∧ w'.cell? ⟨w4.heap.size, 1, none⟩ = some (.slice aoo lo co)) := fun w' hb' => by
        obtain ⟨q0, q1, q2⟩ := HTC.out w5 hb5
        exact ⟨keep_cell hb' q0, keep_cell hb' q1, keep_cell hb' q2, keep_cell hb' x0, keep_cell hb' x1⟩
      clear x0 x1 hx4 hb45 hb34
      obtain ⟨t0, t1, t2, x0, x1⟩ := HTX.out w5 (Below.refl _ _)
      go_cut [10, 11] from 16 to 83 (fun j e wc => j = .int .i64 (rj k) ∧ e = .int .i64 0 ∧ Below w5.heap.size w5 wc)
      case first =>
        go_region_with (first
          | (go_at_call 6; refine (HC1.out _ hbw5.drew).mono ?_; rintro e w6 ⟨vt6, vc6, rfl, ht6, hb6⟩; have hb56 := below_more (Below.refl w5.heap.size w5).drew hb6; obtain ⟨_, _, _, x06, x16⟩ := HTX.out w6 hb56)
          | (go_at_call 21; refine (HSAY.out.judge k _ vt6 vc6 _ _ hlt ht6.out (HX5.out.keep hb56)).mono ?_; rintro e w7 ⟨rfl, hb7⟩; have hb57 := below_more hb56 hb7))
        all_goals
          go_wp2_with fail
          go_meet
          case rel => exact ⟨rfl, rfl, hb57⟩
      case rest =>
        obtain ⟨rfl, rfl, hbc⟩ := hcut
        obtain ⟨w7, hw7⟩ : ∃ x, x = wc := ⟨_, rfl⟩
        subst hw7
        clear t0 t1 t2 x0 x1
        obtain ⟨t0, t1, t2, x0, x1⟩ := HTX.out w7 hbc
        have HX7 : Hid (ExeAt w7 (.slice aof lf cf) (.slice aoo lo co) (ex k)) := HX5.out.keep hbc
        have hbw7 := below_more hbw5 hbc
        have hbr7 := below_more hbr5 hbc
        have HTY : Hid (∀ w', Below w7.heap.size w7 w' → w'.cell? ⟨w.heap.size, 0, none⟩ = some (.slice aot T.length capt) ∧ w'.cell? ⟨w.heap.size, 1, none⟩ = some (.bool fa) ∧ w'.cell? ⟨w.heap.size, 2, none⟩ = some (.slice aoc c.length capc) ∧ w'.cell? ⟨w4.heap.size, 0, none⟩ = some (.slice aof lf cf) ∧ w'.cell? ⟨w4.heap.size, 1, none⟩ = some (.slice aoo lo co)) := fun w' hb' => HTX.out w' (below_more hbc hb')
        have hz := HSAY.out.zero k hlt
        obtain ⟨hr0, hr4⟩ := HSAY.out.rng k
        clear HX5 HTX hbc
        generalize rj k = rk at *
        cases hak : al k
        · rw [hak] at hz
          have hz2 : (rk != 0) = true := by simp [bne, hz]
          have HN : Hid (G (k + 1) = G k ∧ B (k + 1) = B k ∧ F (k + 1) = F k ∧ KK (k + 1) = KK k) := HGAT.out.no k hak
          go_upto_region 7 with fail
          go_cut [12, 13] from 16 to 83 (fun s e wc => s = .slice none 0 0 ∧ e = .int .i64 8 ∧ Below w7.heap.size w7 wc)
          case first =>
            go_region_with (first
              | (go_at_call 6; refine (HC1.out _ hbw7.drew).mono ?_; rintro e w8 ⟨vt8, vc8, rfl, ht8, hb8⟩; have hb78 := below_more (Below.refl w7.heap.size w7).drew hb8; obtain ⟨_, _, _, x08, x18⟩ := HTY.out w8 hb78)
              | (go_at_call 22; refine (HSAY.out.no k _ vt8 vc8 _ _ hlt hak ht8.out (HX7.out.keep hb78)).mono ?_; rintro e w9 ⟨rfl, hb9⟩; have hb79 := below_more hb78 hb9))
            all_goals
              go_wp2_with fail
              go_meet
              case rel => exact ⟨rfl, rfl, hb79⟩
          case rest =>
            obtain ⟨rfl, rfl, hbc⟩ := hcut
            have hbrc := below_more hbr7 hbc
            clear t0 t1 t2 x0 x1 HX7 HTY
            go_wp2_with fail
            go_roundw
            case measure => simp [intOf]; omega
            case rel => exact ⟨k + 1, V, O, vs, by omega, by go_num, by rw [HN.out.1, HN.out.2.1, HN.out.2.2.1, HN.out.2.2.2]; exact HS.out.keep hbrc, hb.trans (hbrc.mono hsr1)⟩
        · rw [hak] at hz
          have hr : rk = 0 := by simpa using hz
          subst hr
          go_upto_region 7 with fail
          go_cut [12, 13] from 16 to 83 (fun s e wc => ∃ u, s = u ∧ e = .int .i64 0 ∧ Hid (IntNew w7.heap.size wc u (st k)) ∧ Below w7.heap.size w7 wc)
          case first =>
            go_region_with (first
              | (go_at_call 6; refine (HC1.out _ hbw7.drew).mono ?_; rintro e w8 ⟨vt8, vc8, rfl, ht8, hb8⟩; have hb78 := below_more (Below.refl w7.heap.size w7).drew hb8; obtain ⟨_, _, _, x08, x18⟩ := HTY.out w8 hb78)
              | (go_at_call 22; refine (HSAY.out.yes k _ vt8 vc8 _ _ hlt hak ht8.out (HX7.out.keep hb78)).mono ?_; rintro e w9 ⟨u9, rfl, hu9, hb9⟩; have hb79 := below_more hb78 hb9))
            all_goals
              have HU9 : Hid (IntNew w7.heap.size w9 u9 (st k)) := hu9.out.less hb78.size
              go_wp2_with fail
              go_meet
              case rel => exact ⟨_, rfl, rfl, HU9.out, hb79⟩
          case rest =>
            obtain ⟨u, hsu, rfl, hu, hbc⟩ := hcut
            replace hsu := hsu.symm
            subst hsu
            obtain ⟨w9, hw9⟩ : ∃ x, x = wc := ⟨_, rfl⟩
            subst hw9
            have hsl := HSL.out k
            have hbr9 := below_more hbr7 hbc
            have hbw9 := below_more hbw7 hbc
            have HS9 : Hid (SumAt (w.heap.size + 1) w9 (w.heap.size + 1) (G k) (B k) (F k) V O ((KK k).map (·.1)) ((KK k).map (·.2)) vs) := HS.out.keep hbr9
            have HUB : Hid (IntAt w9 u (st k) ∧ ∀ j, u.ownBlock = some j → j < w9.heap.size ∧ j ≠ w.heap.size + 1 ∧ V.ownBlock ≠ some j ∧ O.ownBlock ≠ some j) := by
              refine ⟨hu.out.at', fun j hj => ?_⟩
              obtain ⟨q1, q2⟩ := hu.out.own (by intro e; rw [e] at hsl; simp at hsl) j hj
              have hsz := hbr7.size
              have hR := lt_of_block HS.out.rb
              exact ⟨q2, by omega, fun e => by have := (HS.out.sv.lt j e).2; omega, fun e => by have := (HS.out.so.lt j e).2; omega⟩
            have HA : Hid (Calls Tryz.prog 23 #[.pointer (some ⟨w.heap.size + 1, 0, none⟩), .agg #[.slice aot T.length capt, .bool fa, .slice aoc c.length capc], .int .i64 k, u] w9 (AddOut (w.heap.size + 1) w9 (w.heap.size + 1) (G (k + 1)) (B (k + 1)) (F (k + 1)) (KK (k + 1)))) := HADD.out k V O vs u w9 hlt hak hbw9 HS9.out HUB.out.1 HUB.out.2
            obtain ⟨au, cu, hform⟩ := hu.out.at'.form
            have hq : (((st k).length : Int) != 3 * (T.length : Int) + 3) = false := by rw [hsl]; simp
            have hq2 : (st k).length ≤ 15 := by omega
            clear t0 t1 t2 x0 x1 HX7 hu HUB hsl HS9
            generalize (st k).length = L at hform hq hq2
            subst hform
            obtain ⟨t0, t1, t2, _, _⟩ := HTY.out w9 hbc
            clear HTY
            go_wp2_with fail
            refine HA.out.mono ?_
            rintro e w10 ⟨r, V', O', vs', rfl, hS10, hb10⟩
            have HS10 : Hid (SumAt (w.heap.size + 1) w10 (w.heap.size + 1) (G (k + 1)) (B (k + 1)) (F (k + 1)) V' O' ((KK (k + 1)).map (·.1)) ((KK (k + 1)).map (·.2)) vs') := hS10
            clear hS10 t0 t1 t2
            go_wp2_with fail
            go_roundw
            case measure => simp [intOf]; omega
            case rel => exact ⟨k + 1, V', O', vs', by omega, by go_num, HS10.out, (hb.trans (hbr9.mono hsr1)).trans hb10⟩
    · have hkI : (N : Int) ≤ (k : Int) := by omega
      obtain rfl : k = N := by omega
      have HQ := HS
      have hbw : Below w.heap.size w wr := hba.trans (hb.mono (by omega))
      clear HS
      go_wp2_with fail
      exact HOUT.out _ _ ⟨_, _, _, _, rfl, HQ.out, hbw⟩

theorem gathered_any (T : List (List Ins)) (fa : Bool) (c : List Atm) (hz : ((chk T c).1 == 0) = true) (al : Nat → Bool) (hal : Als T (evsT T 0) al) (vt vc : Value) (w : World) (h : TestAt w (.agg #[vt, .bool fa, vc]) T fa c vt vc) :
    Calls Tryz.prog 7 #[.agg #[vt, .bool fa, vc], .int .i64 (sizeN (evsT T 0) : Nat)] w (GatOut w (gdS T.length c (stK al (fun k => stX T (evsT T 0) (exN (evsT T 0) k)) (sizeN (evsT T 0)))) (bdS T.length c (stK al (fun k => stX T (evsT T 0) (exN (evsT T 0) k)) (sizeN (evsT T 0)))) (fstC al (fun j => metB T.length c (stX T (evsT T 0) (exN (evsT T 0) j)) != fa) (sizeN (evsT T 0))) (ctK al (fun k => stX T (evsT T 0) (exN (evsT T 0) k)) (sizeN (evsT T 0)))) := by
  obtain ⟨rj, hs⟩ := says_of T fa c hz al hal
  exact gathered_core T (fits_of hz).short.t4 fa c (chk_atms hz) _ (chk_many_no hz) al _ _ (fun k => stX_len _ _ _) rj hs _ _ _ _ (gat_of T.length fa c al _ (fun k => stX_len _ _ _)) vt vc w h

end Go.Proofs.YtomijmikkbhgmabGreat

namespace Go.Proofs.YtomijmikkbhgmabGreat
open Go.RowKit

theorem find_hit {α : Type} {p : α → Bool} {a : α} (h : p a = true) (l : List α) : (a :: l).find? p = some a := List.find?_cons_of_pos h
theorem find_mis {α : Type} {p : α → Bool} {a : α} (h : p a = false) (l : List α) : (a :: l).find? p = l.find? p := List.find?_cons_of_neg (by simp [h])

theorem witL_find (al : Nat → Bool) (st : Nat → List Int) (n : Nat) (c : List Atm) (fa : Bool) (m i : Nat) : witL n c fa ((List.range' i m).map fun k => if al k then some (st k) else none) i = ((List.range' i m).filter al).find? fun k => metB n c (st k) != fa := by
  induction m generalizing i with
  | zero => rfl
  | succ m ih =>
    rw [List.range'_succ, List.map_cons]
    cases h : al i
    · rw [List.filter_cons_of_neg (by simp [h])]
      simp only [Bool.false_eq_true, if_false]
      rw [witL]
      exact ih (i + 1)
    · rw [List.filter_cons_of_pos h]
      simp only [if_true]
      cases hm : (metB n c (st i) != fa)
      · rw [witL_no hm, find_mis (p := fun k => metB n c (st k) != fa) hm]
        exact ih (i + 1)
      · rw [witL_yes hm, find_hit (p := fun k => metB n c (st k) != fa) hm]
theorem wit_same (al : Nat → Bool) (T : List (List Ins)) (E : List Evt) (c : List Atm) (fa : Bool) (N : Nat) : witL T.length c fa (optL al T E N) 0 = (casN al N).find? fun k => metB T.length c (stX T E (exN E k)) != fa := by
  unfold optL casN
  rw [List.range_eq_range']
  exact witL_find al _ _ _ _ _ _

/-- A case in a block of its own. -/
structure CasB (w : World) (R : Nat) : Prop where
  c0 : w.cell? ⟨R, 0, none⟩ = some (.int .i64 0)
  c1 : w.cell? ⟨R, 1, none⟩ = some (.slice none 0 0)
  c2 : w.cell? ⟨R, 2, none⟩ = some (.slice none 0 0)
  c3 : w.cell? ⟨R, 3, none⟩ = some (.slice none 0 0)
  f0 : w.frozen? ⟨R, 0, none⟩ = false
  f1 : w.frozen? ⟨R, 1, none⟩ = false
  f2 : w.frozen? ⟨R, 2, none⟩ = false
  f3 : w.frozen? ⟨R, 3, none⟩ = false
theorem CasB.lt {w : World} {R : Nat} (k : CasB w R) : R < w.heap.size := World.block_lt_of_cell? w _ k.c0
theorem CasB.keep {w w' : World} {R : Nat} (k : CasB w R) (hb : Below w.heap.size w w') : CasB w' R :=
  ⟨keep_cell hb k.c0, keep_cell hb k.c1, keep_cell hb k.c2, keep_cell hb k.c3, (hb.frozen (p := ⟨R, 0, none⟩) k.lt).trans k.f0, (hb.frozen (p := ⟨R, 1, none⟩) k.lt).trans k.f1, (hb.frozen (p := ⟨R, 2, none⟩) k.lt).trans k.f2, (hb.frozen (p := ⟨R, 3, none⟩) k.lt).trans k.f3⟩

/-- What verdict.Witness tells. -/
def WX (E : List Evt) (wl : Option Nat) (w : World) (n : Int) (vf vo : Value) : Prop := (wl = none ∧ n = -1 ∧ vf = .slice none 0 0 ∧ vo = .slice none 0 0) ∨ ∃ k, wl = some k ∧ n = (k : Int) ∧ ExeAt w vf vo (exN E k)

set_option maxRecDepth 20000 in
set_option maxHeartbeats 4000000 in
theorem verdictWit_any (T : List (List Ins)) (fa : Bool) (c : List Atm) (hz : ((chk T c).1 == 0) = true) (al : Nat → Bool) (hal : Als T (evsT T 0) al) (vt vc v : Value) (w : World) (h : TestAt w (.agg #[vt, .bool fa, vc]) T fa c vt vc) (hv : Ev4Cap w v (evsT T 0)) :
    Calls Tryz.prog 25 #[.agg #[vt, .bool fa, vc], v] w fun e w' => ∃ (n : Int) (vf vo u : Value), e = .returned (.agg #[.int .i64 n, vf, vo, u]) ∧ WX (evsT T 0) (witL T.length c fa (optL al T (evsT T 0) (sizeN (evsT T 0))) 0) w' n vf vo ∧ (∃ a l p, u = .slice a l p) ∧ Below w.heap.size w w' := by
  have HCS : Hid (∀ w', Below w.heap.size w w' → Calls Tryz.prog 43 #[vt, v] w' fun e w'' => ∃ u, e = .returned u ∧ CasAt T (evsT T 0) w'.heap.size w'' u (casN al (sizeN (evsT T 0))) ∧ Below w'.heap.size w' w'') := fun w' hb => cases_any T c hz al hal vt v w' (h.ht.keep hb) (hv.keep hb)
  have hT4 := (fits_of hz).short.t4
  have hAt := chk_atms hz
  have hN := chk_many_no hz
  have hC2 : (casN al (sizeN (evsT T 0))).length ≤ 2000 := Nat.le_trans (casN_len _ _) hN
  have HHD : Hid (∀ (s : List Int) (vs : Value) (w' : World), s.length = 3 * T.length + 3 → Below w.heap.size w w' → IntAt w' vs s → Calls Tryz.prog 44 #[.agg #[vt, .bool fa, vc], vs] w' fun e w'' => e = .returned (.bool (metB T.length c s)) ∧ Below w'.heap.size w' w'') := fun s vs w' hs hb hi => holdsP_any T hT4 fa c hAt vt vc s hs vs w' (h.keep hb) hi
  generalize hst : (fun n => stX T (evsT T 0) (exN (evsT T 0) n)) = st
  have hst' : ∀ n, stX T (evsT T 0) (exN (evsT T 0) n) = st n := fun n => by rw [← hst]
  have HWL : Hid (witL T.length c fa (optL al T (evsT T 0) (sizeN (evsT T 0))) 0 = (casN al (sizeN (evsT T 0))).find? fun k => metB T.length c (st k) != fa) := by
    show _ = _
    rw [wit_same, ← hst]
  have HSL : Hid (∀ n, (st n).length = 3 * T.length + 3) := fun n => by rw [← hst']; exact stX_len _ _ _
  have HKN : Hid (∀ B w' b off n, CasC T (evsT T 0) B w' b off n → ∃ a1 n1 p1 a2 n2 p2 a3 p3, w'.cell? ⟨b, off, none⟩ = some (.int .i64 n) ∧ w'.cell? ⟨b, off + 1, none⟩ = some (.slice a1 n1 p1) ∧ w'.cell? ⟨b, off + 2, none⟩ = some (.slice a2 n2 p2) ∧ w'.cell? ⟨b, off + 3, none⟩ = some (.slice a3 (st n).length p3) ∧ IntAt w' (.slice a3 (st n).length p3) (st n) ∧ ∀ w'' : World, w'.heap.size ≤ w''.heap.size → (∀ b : Nat, B ≤ b → b < w'.heap.size → w''.heap[b]? = w'.heap[b]?) → ExeAt w'' (.slice a1 n1 p1) (.slice a2 n2 p2) (exN (evsT T 0) n)) := fun B w' b off n hc => by
    obtain ⟨a1, n1, p1, a2, n2, p2, a3, p3, k1, k2, k3, k4, k5⟩ := cas_parts hc
    have k6 := k5.now.2
    rw [hst'] at k4 k6
    exact ⟨a1, n1, p1, a2, n2, p2, a3, p3, k1, k2, k3, k4, k6, fun w'' h1 h2 => (k5 w'' h1 h2).1⟩
  generalize witL T.length c fa (optL al T (evsT T 0) (sizeN (evsT T 0))) 0 = WL at HWL ⊢
  have HWX : Hid (∀ w' n vf vo, WX (evsT T 0) WL w' n vf vo ↔ (WL = none ∧ n = -1 ∧ vf = .slice none 0 0 ∧ vo = .slice none 0 0) ∨ ∃ k, WL = some k ∧ n = (k : Int) ∧ ExeAt w' vf vo (exN (evsT T 0) k)) := fun _ _ _ _ => Iff.rfl
  generalize WX (evsT T 0) WL = WXX at HWX ⊢
  obtain ⟨_, aoT, bT, offT, capT, hvT, _⟩ := h.ht
  obtain ⟨hc0, aoc, bc, offc, capc, hsc⟩ := h.hc
  have hcv := hsc.hv
  obtain ⟨ao, b, off, cap, ⟨hv1, _, _, _⟩, _⟩ := hv
  subst hv1 hvT hcv
  clear hz hal hN hst hst' h hsc hAt
  generalize evsT T 0 = E at *
  generalize casN al (sizeN E) = C at *
  go_enter Tryz.func25, Tryz.ntmps25
  go_wp2_with fail
  have hba := below_two w (.cells #[.slice aoT T.length capT, .bool fa, .slice aoc c.length capc] 25) (.cells #[.int .i64 0, .slice none 0 0, .slice none 0 0, .slice none 0 0] 74)
  refine (HCS.out _ hba).mono ?_
  rintro e w3 ⟨uc, rfl, hcs, hb3⟩
  have hbw3 := below_more hba hb3
  have t0 := keep_cell hb3 (b := w.heap.size) (off := 0) (u := .slice aoT T.length capT) (by simp)
  have t1 := keep_cell hb3 (b := w.heap.size) (off := 1) (u := .bool fa) (by simp)
  have t2 := keep_cell hb3 (b := w.heap.size) (off := 2) (u := .slice aoc c.length capc) (by simp)
  have HR3 : Hid (CasB w3 (w.heap.size + 1)) := by
    refine CasB.keep (w := (w.alloc (.cells #[.slice aoT T.length capT, .bool fa, .slice aoc c.length capc] 25)).alloc (.cells #[.int .i64 0, .slice none 0 0, .slice none 0 0, .slice none 0 0] 74)) ⟨?_, ?_, ?_, ?_, ?_, ?_, ?_, ?_⟩ hb3 <;> simp
  obtain ⟨aoC, bC, offC, capC, hvC, haC, _, hcC⟩ := hcs
  subst hvC
  have HCC : Hid (∀ (k n : Nat), C[k]? = some n → ∃ a1 n1 p1 a2 n2 p2 a3 p3, w3.cell? ⟨bC, offC + k * 4, none⟩ = some (.int .i64 n) ∧ w3.cell? ⟨bC, offC + k * 4 + 1, none⟩ = some (.slice a1 n1 p1) ∧ w3.cell? ⟨bC, offC + k * 4 + 2, none⟩ = some (.slice a2 n2 p2) ∧ w3.cell? ⟨bC, offC + k * 4 + 3, none⟩ = some (.slice a3 (st n).length p3) ∧ IntAt w3 (.slice a3 (st n).length p3) (st n) ∧ ∀ w'' : World, w3.heap.size ≤ w''.heap.size → (∀ b : Nat, w.heap.size + 2 ≤ b → b < w3.heap.size → w''.heap[b]? = w3.heap[b]?) → ExeAt w'' (.slice a1 n1 p1) (.slice a2 n2 p2) (exN E n)) := fun k n hk => by
    have := HKN.out _ _ _ _ _ (hcC k n hk)
    simp only [World.size_alloc] at this
    exact this
  have HK : Hid (∀ w', Below w3.heap.size w3 w' → w'.cell? ⟨w.heap.size, 0, none⟩ = some (.slice aoT T.length capT) ∧ w'.cell? ⟨w.heap.size, 1, none⟩ = some (.bool fa) ∧ w'.cell? ⟨w.heap.size, 2, none⟩ = some (.slice aoc c.length capc)) := fun w' hb => ⟨keep_cell hb t0, keep_cell hb t1, keep_cell hb t2⟩
  have HW0 : Hid (WL = (C.drop 0).find? fun k => metB T.length c (st k) != fa) := HWL.out
  clear hcC HCS HKN t0 t1 t2 hb3 hba HWL
  go_wp2_with fail
  go_loopw [12] (fun i wr => ∃ k : Nat, k ≤ C.length ∧ i = .int .i64 k ∧ Hid (WL = (C.drop k).find? fun k => metB T.length c (st k) != fa) ∧ Below w3.heap.size w3 wr) (fun i _ => C.length - (intOf i).toNat)
  case atStart => exact ⟨0, Nat.zero_le _, rfl, HW0.out, Below.refl _ _⟩
  case round =>
    clear HW0
    obtain ⟨k, hk, rfl, hn0, hb⟩ := hrel
    have hbw := below_more hbw3 hb
    obtain ⟨t0, t1, t2⟩ := HK.out wr hb
    by_cases hlt : k < C.length
    · obtain ⟨n, hn⟩ := get_of_lt hlt
      obtain rfl := haC (ne_nil hlt)
      obtain ⟨a1, n1, p1, a2, n2, p2, a3, p3, c0, c1, c2, c3, hus, hstb⟩ := HCC.out k n hn
      have HSTB : Hid (∀ w'' : World, w3.heap.size ≤ w''.heap.size → (∀ b : Nat, w.heap.size + 2 ≤ b → b < w3.heap.size → w''.heap[b]? = w3.heap[b]?) → ExeAt w'' (.slice a1 n1 p1) (.slice a2 n2 p2) (exN E n)) := hstb
      have HYES : Hid ((metB T.length c (st n) != fa) = true → WL = some n) := fun hm => hn0.out.trans (by rw [drop_cons hn, find_hit (p := fun k => metB T.length c (st k) != fa) hm])
      have HNO : Hid ((metB T.length c (st n) != fa) = false → WL = (C.drop (k + 1)).find? fun k => metB T.length c (st k) != fa) := fun hm => hn0.out.trans (by rw [drop_cons hn, find_mis (p := fun k => metB T.length c (st k) != fa) hm])
      have HH1 : Hid (∀ w', Below wr.heap.size wr w' → Calls Tryz.prog 44 #[.agg #[.slice aoT T.length capT, .bool fa, .slice aoc c.length capc], .slice a3 (st n).length p3] w' fun e w'' => e = .returned (.bool (metB T.length c (st n))) ∧ Below w'.heap.size w' w'') := fun w' hb' => HHD.out (st n) _ w' (HSL.out n) (below_more hbw hb') (hus.keep (below_more hb hb'))
      generalize metB T.length c (st n) = mt at HYES HNO HH1
      have d0 := keep_cell hb c0
      have d1 := keep_cell hb c1
      have d2 := keep_cell hb c2
      have d3 := keep_cell hb c3
      have hkI : (k : Int) < (C.length : Int) := by omega
      generalize (st n).length = ln at *
      clear hus c0 c1 c2 c3 hn hstb hn0
      have hm0 := World.block_lt_of_cell? _ _ t0
      simp only at hm0
      go_wp2_with fail
      have hba2 := below_alloc wr (.cells #[.int .i64 n, .slice a1 n1 p1, .slice a2 n2 p2, .slice a3 ln p3] 74)
      have x0 : (wr.alloc (.cells #[.int .i64 n, .slice a1 n1 p1, .slice a2 n2 p2, .slice a3 ln p3] 74)).cell? ⟨wr.heap.size, 0, none⟩ = some (.int .i64 n) := by simp
      have x1 : (wr.alloc (.cells #[.int .i64 n, .slice a1 n1 p1, .slice a2 n2 p2, .slice a3 ln p3] 74)).cell? ⟨wr.heap.size, 1, none⟩ = some (.slice a1 n1 p1) := by simp
      have x2 : (wr.alloc (.cells #[.int .i64 n, .slice a1 n1 p1, .slice a2 n2 p2, .slice a3 ln p3] 74)).cell? ⟨wr.heap.size, 2, none⟩ = some (.slice a2 n2 p2) := by simp
      have x3 : (wr.alloc (.cells #[.int .i64 n, .slice a1 n1 p1, .slice a2 n2 p2, .slice a3 ln p3] 74)).cell? ⟨wr.heap.size, 3, none⟩ = some (.slice a3 ln p3) := by simp
      replace t0 := keep_cell hba2 t0
      replace t1 := keep_cell hba2 t1
      replace t2 := keep_cell hba2 t2
      have hb1a := below_more hb hba2
      generalize wr.alloc (.cells #[.int .i64 n, .slice a1 n1 p1, .slice a2 n2 p2, .slice a3 ln p3] 74) = W1 at hba2 x0 x1 x2 x3 t0 t1 t2 hb1a ⊢
      have hBx : wr.heap.size ≠ w.heap.size + 1 := by have := HR3.out.lt; have := hb.size; omega
      have HH2 : Hid (∀ w', Below W1.heap.size W1 w' → Calls Tryz.prog 44 #[.agg #[.slice aoT T.length capT, .bool fa, .slice aoc c.length capc], .slice a3 ln p3] w' fun e w'' => e = .returned (.bool mt) ∧ Below w'.heap.size w' w'') := fun w' hb' => HH1.out w' (below_more hba2 hb')
      generalize wr.heap.size = Bx at x0 x1 x2 x3 hBx ⊢
      clear d0 d1 d2 d3 HH1 hba2 hb
      have g0 := grown_cell t0
      have g1 := grown_cell t1
      have g2 := grown_cell t2
      have g3 := grown_cell x3
      have hnw := grw_some W1
      cases hmf : (mt != fa)
      · have HN2 : Hid (WL = (C.drop (k + 1)).find? fun k => metB T.length c (st k) != fa) := HNO.out hmf
        clear HYES HNO
        have e : mt = fa := by simpa using hmf
        clear hmf
        subst e
        cases mt
        all_goals
          go_wp2_with fail
          refine wp_region_grown (by kernel_rfl) (by kernel_rfl) ?_
          repeat (go_big_quiet_step ((go_at_call 44; exact grown_call (HH2.out _ (Grw.low _)))))
          refine wpQuiet_nil ?_
          intro w7 hw7
          obtain ⟨⟨w7', hb7⟩, rfl⟩ := hw7
          clear g0 g1 g2 g3
          go_wp2_with fail
          go_roundw
          case measure => simp [intOf]; omega
          case rel => exact ⟨k + 1, by omega, by go_num, HN2.out, below_more hb1a hb7⟩
      · have HN2 : Hid (WL = some n) := HYES.out hmf
        clear HYES HNO
        have e : mt = !fa := by revert hmf; cases mt <;> cases fa <;> simp
        clear hmf
        subst e
        cases fa
        all_goals
          go_wp2_with fail
          refine wp_region_grown (by kernel_rfl) (by kernel_rfl) ?_
          repeat (go_big_quiet_step ((go_at_call 44; exact grown_call (HH2.out _ (Grw.low _)))))
          refine wpQuiet_nil ?_
          intro w7 hw7
          obtain ⟨⟨w7', hb7⟩, rfl⟩ := hw7
          replace x0 := keep_cell hb7 x0
          replace x1 := keep_cell hb7 x1
          replace x2 := keep_cell hb7 x2
          replace x3 := keep_cell hb7 x3
          have hb37 := below_more hb1a hb7
          have hbw7 := below_more hbw3 hb37
          have hcb := HR3.out.keep hb37
          have hcl := HR3.out.lt
          obtain ⟨r0, r1, r2, r3, s0, s1, s2, s3⟩ := hcb
          clear g0 g1 g2 g3
          go_wp2_with fail
          refine bodyPost_ret (v := .agg #[.int .i64 n, .slice a1 n1 p1, .slice a2 n2 p2, .slice a3 ln p3]) (by simp [results, Tryz.results25, go_sem, *]) rfl ⟨_, _, _, _, rfl, (HWX.out _ _ _ _).2 (.inr ⟨n, HN2.out, rfl, HSTB.out _ ?_ (fun b hb1 hb2 => ?_)⟩), ⟨_, _, _, rfl⟩, ?_⟩
          · have := hb37.size; simp [World.setCell]; omega
          · have hne : b ≠ w.heap.size + 1 := by omega
            rw [Below.heap_setCell _ _ _ _ hne, Below.heap_setCell _ _ _ _ hne, Below.heap_setCell _ _ _ _ hne, Below.heap_setCell _ _ _ _ hne, hb37.block b hb2]
          · exact (((hbw7.setCell (by simp) _).setCell (by simp) _).setCell (by simp) _).setCell (by simp) _
    · have HN2 : Hid (WL = none) := hn0.out.trans (by rw [drop_nil hlt]; rfl)
      have hkI : (C.length : Int) ≤ (k : Int) := by omega
      obtain ⟨r0, r1, r2, r3, s0, s1, s2, s3⟩ := HR3.out.keep hb
      clear hn0
      go_wp2_with fail
      refine bodyPost_ret (v := .agg #[.int .i64 (-1), .slice none 0 0, .slice none 0 0, .slice none 0 0]) (by simp [results, Tryz.results25, go_sem, *]) rfl ⟨_, _, _, _, rfl, (HWX.out _ _ _ _).2 (.inl ⟨HN2.out, rfl, rfl, rfl⟩), ⟨_, _, _, rfl⟩, ?_⟩
      exact (((hbw.setCell (by simp) _).setCell (by simp) _).setCell (by simp) _).setCell (by simp) _

end Go.Proofs.YtomijmikkbhgmabGreat
