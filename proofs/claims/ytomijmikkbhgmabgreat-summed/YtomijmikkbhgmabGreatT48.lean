import Derived.Test.YtomijmikkbhgmabGreatT46
import Derived.Test.YtomijmikkbhgmabGreatT47
import Derived.Test.YtomijmikkbhgmabGreatT31
namespace Go.Proofs.YtomijmikkbhgmabGreat
open Go.RowKit

/-- What the calls say of a test that may be. -/
structure Tells (T : List (List Ins)) (fa : Bool) (c : List Atm) (N G B : Nat) (F : Int) (K KK : List (List Int × Nat)) (xw : Exe) : Prop where
  size : ∀ (w : World) (vt vc : Value), TestAt w (.agg #[vt, .bool fa, vc]) T fa c vt vc → Calls Tryz.prog 5 #[.agg #[vt, .bool fa, vc]] w fun e w' => e = .returned (.tuple #[.int .i64 N, .int .i64 0]) ∧ Below w.heap.size w w'
  gath : ∀ (w : World) (vt vc : Value), TestAt w (.agg #[vt, .bool fa, vc]) T fa c vt vc → Calls Tryz.prog 7 #[.agg #[vt, .bool fa, vc], .int .i64 N] w (GatOut w G B F KK)
  ver : ∀ (w : World) (vt vc : Value), TestAt w (.agg #[vt, .bool fa, vc]) T fa c vt vc → Calls Tryz.prog 9 #[.agg #[vt, .bool fa, vc]] w fun e w' => e = .returned (.tuple #[repV G B fa, .int .i64 0]) ∧ Below w.heap.size w w'
  wit : ∀ (w : World) (vt vc : Value), TestAt w (.agg #[vt, .bool fa, vc]) T fa c vt vc → Calls Tryz.prog 11 #[.agg #[vt, .bool fa, vc]] w fun e w' => ∃ vf vo, e = .returned (.tuple #[.int .i64 F, .agg #[vf, vo], .int .i64 0]) ∧ Hid (ExeAt w' vf vo xw) ∧ Below w.heap.size w w'
  cand : F ≠ -1 → ∀ (w : World) (vt vc : Value), TestAt w (.agg #[vt, .bool fa, vc]) T fa c vt vc → Calls Tryz.prog 12 #[.agg #[vt, .bool fa, vc], .int .i64 F] w fun e w' => ∃ vf vo, e = .returned (.tuple #[.agg #[vf, vo], .int .i64 0]) ∧ Hid (ExeAt w' vf vo xw) ∧ Below w.heap.size w w'
  fit : KFit (3 * T.length + 3) K
  t4 : T.length ≤ 4
  len : KK.length = K.length
  cnt : ∀ p ∈ KK, cnOu K p.1 = p.2
  kl : ∀ p ∈ KK, p.1.length ≤ 1000
  kc : ∀ p ∈ KK, p.2 ≤ 2000
  n2 : N ≤ 2000
  g2 : G ≤ 2000
  b2 : B ≤ 2000
  f2 : -1 ≤ F ∧ F ≤ 2000
  nof : F = -1 → xw = ⟨[], []⟩
  x1 : xw.from'.length ≤ 1000
  x2 : xw.order.length ≤ 1000
  x3 : ∀ y ∈ xw.order, y.length ≤ 1000
  x4 : (plc xw).length ≤ 100000

set_option maxRecDepth 20000 in
set_option maxHeartbeats 8000000 in
theorem summed_core (T : List (List Ins)) (fa : Bool) (c : List Atm) (N G B : Nat) (F : Int) (K KK : List (List Int × Nat)) (xw : Exe) (htl : Tells T fa c N G B F K KK xw) (vt vc : Value) (w : World) (h : TestAt w (.agg #[vt, .bool fa, vc]) T fa c vt vc)
    (hout : ∀ w', Below w.heap.size w w' → Calls Tryz.prog 4 #[.agg #[vt, .bool fa, vc]] w' fun e w'' => ∃ u, e = .returned (.tuple #[u, .bool true]) ∧ Hid (OutAt w'' u K) ∧ Below w'.heap.size w' w'') :
    Calls Tryz.prog 3 #[.agg #[vt, .bool fa, vc]] w fun e w' => e = .returned (.bool true) ∧ Below w.heap.size w w' := by
  have HC1 : Hid (∀ w', Below w.heap.size w w' → Calls Tryz.prog 6 #[.agg #[vt, .bool fa, vc]] w' fun e w'' => ∃ vt' vc', e = .returned (.agg #[vt', .bool fa, vc']) ∧ Hid (TestAt w'' (.agg #[vt', .bool fa, vc']) T fa c vt' vc') ∧ Below w'.heap.size w' w'') := fun w' hb => copy_any T fa c _ vt vc w' (h.keep hb)
  have HT : Hid (∀ w', Below w.heap.size w w' → TestAt w' (.agg #[vt, .bool fa, vc]) T fa c vt vc) := fun w' hb => h.keep hb
  have HTL : Hid (Tells T fa c N G B F K KK xw) := htl
  have HOUT : Hid (∀ w', Below w.heap.size w w' → Calls Tryz.prog 4 #[.agg #[vt, .bool fa, vc]] w' fun e w'' => ∃ u, e = .returned (.tuple #[u, .bool true]) ∧ Hid (OutAt w'' u K) ∧ Below w'.heap.size w' w'') := hout
  obtain ⟨ht0, aot, bt, offt, capt, htv, _⟩ := h.ht.opened
  obtain ⟨hc0, aoc, bc, offc, capc, hsc⟩ := h.hc
  have hcv := hsc.hv
  subst htv hcv
  clear h hsc hout htl
  have nq1 : ∀ (w : World) (a : Addr) (n c n' c' : Nat), (binOp .eql 26 (.slice (some a) n c) (.slice none n' c')).run Tryz.prog w = .ok (.bool false) w := fun w a n c n' c' => Lib.run_eql_slice_nil w _ _ (some a) n c n' c' Tryz.underlying26
  go_enter Tryz.func3, Tryz.ntmps3
  go_wp2_with fail
  have hba := below_alloc w (.cells #[.slice aot T.length capt, .bool fa, .slice aoc c.length capc] 25)
  refine (HOUT.out _ hba).mono ?_
  rintro e w3 ⟨u3, rfl, hu3, hb3⟩
  have hbw3 := below_more hba hb3
  have HTC : Hid (∀ w', Below w3.heap.size w3 w' → w'.cell? ⟨w.heap.size, 0, none⟩ = some (.slice aot T.length capt) ∧ w'.cell? ⟨w.heap.size, 1, none⟩ = some (.bool fa) ∧ w'.cell? ⟨w.heap.size, 2, none⟩ = some (.slice aoc c.length capc)) := fun w' hb => by
    have t0 := keep_cell hb3 (b := w.heap.size) (off := 0) (u := .slice aot T.length capt) (by simp)
    have t1 := keep_cell hb3 (b := w.heap.size) (off := 1) (u := .bool fa) (by simp)
    have t2 := keep_cell hb3 (b := w.heap.size) (off := 2) (u := .slice aoc c.length capc) (by simp)
    exact ⟨keep_cell hb t0, keep_cell hb t1, keep_cell hb t2⟩
  obtain ⟨r, cap, hform⟩ := hu3.out.form2 HTL.out.fit.ne
  subst hform
  have HU : Hid (∀ w', Below w3.heap.size w3 w' → OutAt w' (.slice (some r) K.length cap) K) := fun w' hb => hu3.out.keep hb
  have HLN : Hid (KK.length = K.length) := HTL.out.len
  have hlnb : K.length ≤ 2000 := HTL.out.fit.few
  have hlnp : 0 < K.length := List.length_pos_iff.2 HTL.out.fit.ne
  clear hu3 hb3
  generalize K.length = ln at *
  obtain ⟨t0, t1, t2⟩ := HTC.out w3 (Below.refl _ _)
  go_wp2_with fail
  refine (HC1.out w3 hbw3).mono ?_
  rintro e w4 ⟨vt4, vc4, rfl, ht4, hb4⟩
  clear t0 t1 t2
  go_wp2_with fail
  refine (HTL.out.size w4 vt4 vc4 ht4.out).mono ?_
  rintro e w5 ⟨rfl, hb5⟩
  have hb35 := below_more hb4 hb5
  have hbw5 := below_more hbw3 hb35
  clear ht4 hb4 hb5
  obtain ⟨t0, t1, t2⟩ := HTC.out w5 hb35
  go_wp2_with fail
  refine (HTL.out.gath w5 _ _ (HT.out w5 hbw5)).mono ?_
  rintro e w6 ⟨R, V, O, vs, rfl, hS, hb6⟩
  have hb36 := below_more hb35 hb6
  have hbw6 := below_more hbw5 hb6
  have lS : (KK.map (·.1)).length = ln := by rw [List.length_map]; exact HLN.out
  have lC : (KK.map (·.2)).length = ln := by rw [List.length_map]; exact HLN.out
  obtain ⟨gv, capv, hV⟩ := own_some1 hS.sv (by rw [lS]; exact hlnp)
  obtain ⟨go, capo, hO⟩ := own_some1 hS.so (by rw [lC]; exact hlnp)
  rw [lS] at hV
  rw [lC] at hO
  subst hV hO
  have HR : Hid (∀ w', Below w6.heap.size w6 w' → w'.cell? ⟨R, 0, none⟩ = some (.int .i64 G) ∧ w'.cell? ⟨R, 1, none⟩ = some (.int .i64 B) ∧ w'.cell? ⟨R, 2, none⟩ = some (.int .i64 F) ∧ w'.cell? ⟨R, 3, none⟩ = some (.slice (some ⟨gv, 0, none⟩) ln capv) ∧ w'.cell? ⟨R, 4, none⟩ = some (.slice (some ⟨go, 0, none⟩) ln capo)) := fun w' hb => by
    have hk := (hS.keep hb).rb
    refine ⟨?_, ?_, ?_, ?_, ?_⟩ <;> simp [World.cell?, hk]
  have HROW : Hid (∀ w' j, Below w6.heap.size w6 w' → j < ln → ∃ (p : List Int × Nat) (au : Option Addr) (cu : Nat), p ∈ KK ∧ w'.cell? ⟨gv, j, none⟩ = some (.slice au p.1.length cu) ∧ IntAt w' (.slice au p.1.length cu) p.1 ∧ w'.cell? ⟨go, j, none⟩ = some (.int .i64 p.2)) := fun w' j hb hj => by
    have hk := hS.keep hb
    obtain ⟨p, hp⟩ := get_of_lt (l := KK) (k := j) (by rw [HLN.out]; exact hj)
    obtain ⟨u, h1, h2, _⟩ := hk.rows j p.1 (by rw [List.getElem?_map, hp]; rfl)
    obtain ⟨au, cu, hf⟩ := h2.form
    subst hf
    have c1 : w'.cell? ⟨gv, j, none⟩ = vs[j]? := by
      have := hk.sv
      rw [lS] at this
      exact this.cellAt j (by omega)
    have c2 : w'.cell? ⟨go, j, none⟩ = ((KK.map (·.2)).map fun n : Nat => Value.int .i64 (n : Int))[j]? := by
      have := hk.so
      rw [lC] at this
      exact this.cellAt j (by omega)
    refine ⟨p, au, cu, List.mem_of_getElem? hp, c1.trans h1, h2, c2.trans ?_⟩
    rw [List.getElem?_map, List.getElem?_map, hp]
    rfl
  have HREP : Hid (∃ (v : Int) (hh : Bool), repV G B fa = .agg #[.int .i64 v, .int .i64 G, .int .i64 B, .bool hh]) := ⟨_, _, rfl⟩
  have hF := HTL.out.f2
  clear t0 t1 t2 hS hb6 hb35 hbw5 lS lC
  obtain ⟨r0, r1, r2, r3, r4⟩ := HR.out w6 (Below.refl _ _)
  go_wp2_with fail
  go_loopw [9] (fun i wr => ∃ k : Nat, k ≤ ln ∧ i = .int .i64 k ∧ Below w6.heap.size w6 wr) (fun i _ => ln - (intOf i).toNat)
  case atStart => exact ⟨0, Nat.zero_le _, rfl, Below.refl _ _⟩
  case round =>
    clear r0 r1 r2 r3 r4
    obtain ⟨k, hk, rfl, hb⟩ := hrel
    obtain ⟨r0, r1, r2, r3, r4⟩ := HR.out wr hb
    by_cases hlt : k < ln
    · have hkI : (k : Int) < (ln : Int) := by omega
      obtain ⟨p, au, cu, hpm, s0, hi, s1⟩ := HROW.out wr k hb hlt
      have HCN : Hid (Calls Tryz.prog 8 #[.slice (some r) ln cap, .slice au p.1.length cu] wr fun e w'' => e = .returned (.int .i64 p.2) ∧ Below wr.heap.size wr w'') := by
        have := counted_any _ K HTL.out.fit (by have := HTL.out.t4; omega) p.1 (HTL.out.kl p hpm) _ _ wr (HU.out wr (below_more hb36 hb)) hi
        rw [HTL.out.cnt p hpm] at this
        exact this
      have HRN : Hid (∀ w', Below wr.heap.size wr w' → w'.cell? ⟨R, 4, none⟩ = some (.slice (some ⟨go, 0, none⟩) ln capo) ∧ w'.cell? ⟨go, k, none⟩ = some (.int .i64 p.2)) := fun w' hb' => ⟨keep_cell hb' r4, keep_cell hb' s1⟩
      generalize p.1.length = lp at *
      generalize p.2 = cp at *
      clear hi hpm
      go_wp2_with fail
      refine HCN.out.mono ?_
      rintro e w7 ⟨rfl, hb7⟩
      obtain ⟨q4, s7⟩ := HRN.out w7 hb7
      clear r0 r1 r2 r3 r4 s0 s1
      go_wp2_with fail
      go_roundw
      case measure => simp [intOf]; omega
      case rel => exact ⟨k + 1, by omega, by go_num, below_more hb hb7⟩
    · have hkI : (ln : Int) ≤ (k : Int) := by omega
      have hbw := below_more hbw6 hb
      have hb3r := below_more hb36 hb
      obtain ⟨t0, t1, t2⟩ := HTC.out wr hb3r
      go_wp2_with fail
      refine (HC1.out wr hbw).mono ?_
      rintro e w7 ⟨vt7, vc7, rfl, ht7, hb7⟩
      clear t0 t1 t2 r0 r1 r2 r3 r4
      go_wp2_with fail
      refine (HTL.out.ver w7 vt7 vc7 ht7.out).mono ?_
      rintro e w8 ⟨rfl, hb8⟩
      obtain ⟨v, hh, hrep⟩ := HREP.out
      rw [hrep]
      have hb78 := below_more hb7 hb8
      clear ht7 hb7 hb8
      go_upto_region 15 with fail
      have hb89 := below_alloc w8 (.cells #[.int .i64 v, .int .i64 G, .int .i64 B, .bool hh] 42)
      have y0 : (w8.alloc (.cells #[.int .i64 v, .int .i64 G, .int .i64 B, .bool hh] 42)).cell? ⟨w8.heap.size, 0, none⟩ = some (.int .i64 v) := by simp
      have y1 : (w8.alloc (.cells #[.int .i64 v, .int .i64 G, .int .i64 B, .bool hh] 42)).cell? ⟨w8.heap.size, 1, none⟩ = some (.int .i64 G) := by simp
      have y2 : (w8.alloc (.cells #[.int .i64 v, .int .i64 G, .int .i64 B, .bool hh] 42)).cell? ⟨w8.heap.size, 2, none⟩ = some (.int .i64 B) := by simp
      have y3 : (w8.alloc (.cells #[.int .i64 v, .int .i64 G, .int .i64 B, .bool hh] 42)).cell? ⟨w8.heap.size, 3, none⟩ = some (.bool hh) := by simp
      obtain ⟨w9, hw9⟩ : ∃ x, x = w8.alloc (.cells #[.int .i64 v, .int .i64 G, .int .i64 B, .bool hh] 42) := ⟨_, rfl⟩
      rw [← hw9] at hb89 y0 y1 y2 y3 ⊢
      clear hw9
      have hbr9 := below_more hb78 hb89
      have hb69 := below_more hb hbr9
      have hbw9 := below_more hbw hbr9
      have hb39 := below_more hb3r hbr9
      obtain ⟨t0, t1, t2⟩ := HTC.out w9 hb39
      obtain ⟨r0, r1, r2, r3, r4⟩ := HR.out w9 hb69
      have HTO : Hid (Calls Tryz.prog 10 #[.agg #[.slice aot T.length capt, .bool fa, .slice aoc c.length capc], .agg #[.int .i64 v, .int .i64 G, .int .i64 B, .bool hh], .pointer (some ⟨R, 0, none⟩)] w9 fun e w' => e = .returned (.bool true) ∧ Below w9.heap.size w9 w') := by
        have := told_any G B HTL.out.g2 HTL.out.b2 fa (.slice aot T.length capt) (.slice aoc c.length capc) R w9 r0 r1
        rw [hrep] at this
        exact this
      clear hb78 hb89 hrep HREP
      go_wp2_with fail
      refine HTO.out.mono ?_
      rintro e w10 ⟨rfl, hb10⟩
      clear t0 t1 t2 r0 r1 r2 r3 r4 y0 y1 y2 y3 HTO
      have hb310 := below_more hb39 hb10
      have hb610 := below_more hb69 hb10
      have hbw10 := below_more hbw9 hb10
      clear hb10 hb69 hb39 hbw9 hbr9 hb hbw hb3r
      obtain ⟨t0, t1, t2⟩ := HTC.out w10 hb310
      go_wp2_with fail
      refine (HC1.out w10 hbw10).mono ?_
      rintro e w11 ⟨vt11, vc11, rfl, ht11, hb11⟩
      clear t0 t1 t2
      go_wp2_with fail
      refine (HTL.out.wit w11 vt11 vc11 ht11.out).mono ?_
      rintro e w12 ⟨vf, vo, rfl, hx12, hb12⟩
      have hb1012 := below_more hb11 hb12
      clear ht11 hb11 hb12
      obtain ⟨aof, cf, hf12⟩ := hx12.out.f.form
      obtain ⟨aoo, bo, offo, co, hso⟩ := hx12.out.o
      have hvo := hso.hv
      subst hf12 hvo
      clear hso
      have HXN : Hid (F = -1 → xw.from'.length = 0 ∧ xw.order.length = 0) := fun e => by rw [HTL.out.nof e]; exact ⟨rfl, rfl⟩
      generalize hlf : xw.from'.length = lf at *
      generalize hlo : xw.order.length = lo at *
      have HLF : Hid (xw.from'.length = lf ∧ xw.order.length = lo) := ⟨hlf, hlo⟩
      clear hlf hlo
      go_upto_region 17 with fail
      have hb1213 := below_alloc w12 (.cells #[.slice aof lf cf, .slice aoo lo co] 47)
      have x0 : (w12.alloc (.cells #[.slice aof lf cf, .slice aoo lo co] 47)).cell? ⟨w12.heap.size, 0, none⟩ = some (.slice aof lf cf) := by simp
      have x1 : (w12.alloc (.cells #[.slice aof lf cf, .slice aoo lo co] 47)).cell? ⟨w12.heap.size, 1, none⟩ = some (.slice aoo lo co) := by simp
      obtain ⟨w13, hw13⟩ : ∃ x, x = w12.alloc (.cells #[.slice aof lf cf, .slice aoo lo co] 47) := ⟨_, rfl⟩
      rw [← hw13] at hb1213 x0 x1 ⊢
      clear hw13
      have hb1013 := below_more hb1012 hb1213
      have HX13 : Hid (∀ w', Below w13.heap.size w13 w' → ExeAt w' (.slice aof lf cf) (.slice aoo lo co) xw) := fun w' hb' => (hx12.out.keep hb1213).keep hb'
      have hb313 := below_more hb310 hb1013
      have hb613 := below_more hb610 hb1013
      have hbw13 := below_more hbw10 hb1013
      clear hx12 hb1012 hb1213 hb1013 hb310 hb610 hbw10
      obtain ⟨r0, r1, r2, r3, r4⟩ := HR.out w13 hb613
      obtain ⟨t0, t1, t2⟩ := HTC.out w13 hb313
      by_cases hF1 : F = -1
      · obtain ⟨l1, l2⟩ := HXN.out hF1
        subst hF1 l1 l2
        go_wp2_with fail
        go_ret
        exact ⟨rfl, hbw13⟩
      · have hF2 : (F == -1) = false := by simpa using hF1
        have HCD := HTL.out.cand hF1
        have HTX : Hid (∀ w', Below w13.heap.size w13 w' → w'.cell? ⟨w12.heap.size, 0, none⟩ = some (.slice aof lf cf) ∧ w'.cell? ⟨w12.heap.size, 1, none⟩ = some (.slice aoo lo co)) := fun w' hb' => ⟨keep_cell hb' x0, keep_cell hb' x1⟩
        have HCDH : Hid (∀ (w : World) (vt vc : Value), TestAt w (.agg #[vt, .bool fa, vc]) T fa c vt vc → Calls Tryz.prog 12 #[.agg #[vt, .bool fa, vc], .int .i64 F] w fun e w' => ∃ vf vo, e = .returned (.tuple #[.agg #[vf, vo], .int .i64 0]) ∧ Hid (ExeAt w' vf vo xw) ∧ Below w.heap.size w w') := HCD
        clear HCD
        go_wp2_with fail
        refine (HC1.out w13 hbw13).mono ?_
        rintro e w14 ⟨vt14, vc14, rfl, ht14, hb14⟩
        clear t0 t1 t2 r0 r1 r2 r3 r4 x0 x1
        go_wp2_with fail
        refine (HCDH.out w14 vt14 vc14 ht14.out).mono ?_
        rintro e w15 ⟨vf2, vo2, rfl, hx15, hb15⟩
        have hb1315 := below_more hb14 hb15
        clear ht14 hb14 hb15 HCDH
        obtain ⟨aof2, cf2, hf15⟩ := hx15.out.f.form
        obtain ⟨aoo2, bo2, offo2, co2, hso⟩ := hx15.out.o
        have hvo := hso.hv
        rw [HLF.out.1] at hf15
        rw [HLF.out.2] at hvo
        subst hf15 hvo
        clear hso
        go_upto_region 22 with fail
        have hb1516 := below_alloc w15 (.cells #[.slice aof2 lf cf2, .slice aoo2 lo co2] 47)
        have z0 : (w15.alloc (.cells #[.slice aof2 lf cf2, .slice aoo2 lo co2] 47)).cell? ⟨w15.heap.size, 0, none⟩ = some (.slice aof2 lf cf2) := by simp
        have z1 : (w15.alloc (.cells #[.slice aof2 lf cf2, .slice aoo2 lo co2] 47)).cell? ⟨w15.heap.size, 1, none⟩ = some (.slice aoo2 lo co2) := by simp
        obtain ⟨w16, hw16⟩ : ∃ x, x = w15.alloc (.cells #[.slice aof2 lf cf2, .slice aoo2 lo co2] 47) := ⟨_, rfl⟩
        rw [← hw16] at hb1516 z0 z1 ⊢
        clear hw16
        have hb1316 := below_more hb1315 hb1516
        have hbw16 := below_more hbw13 hb1316
        have HX16 : Hid (∀ w', Below w16.heap.size w16 w' → ExeAt w' (.slice aof2 lf cf2) (.slice aoo2 lo co2) xw ∧ ExeAt w' (.slice aof lf cf) (.slice aoo lo co) xw) := fun w' hb' => ⟨(hx15.out.keep hb1516).keep hb', HX13.out w' (below_more hb1316 hb')⟩
        have HTZ : Hid (∀ w', Below w16.heap.size w16 w' → w'.cell? ⟨w12.heap.size, 0, none⟩ = some (.slice aof lf cf) ∧ w'.cell? ⟨w12.heap.size, 1, none⟩ = some (.slice aoo lo co) ∧ w'.cell? ⟨w15.heap.size, 0, none⟩ = some (.slice aof2 lf cf2) ∧ w'.cell? ⟨w15.heap.size, 1, none⟩ = some (.slice aoo2 lo co2)) := fun w' hb' => ⟨(HTX.out w' (below_more hb1316 hb')).1, (HTX.out w' (below_more hb1316 hb')).2, keep_cell hb' z0, keep_cell hb' z1⟩
        have HPX : Hid (∀ w', Below w16.heap.size w16 w' → Calls Tryz.prog 14 #[.agg #[.slice aof lf cf, .slice aoo lo co]] w' fun e w'' => ∃ u, e = .returned u ∧ Hid (IntAt w'' u (plc xw)) ∧ Below w'.heap.size w' w'') := fun w' hb' => place_any xw HTL.out.x1 HTL.out.x2 HTL.out.x3 _ _ w' (HX16.out w' hb').2
        have HPY : Hid (∀ w', Below w16.heap.size w16 w' → Calls Tryz.prog 14 #[.agg #[.slice aof2 lf cf2, .slice aoo2 lo co2]] w' fun e w'' => ∃ u, e = .returned u ∧ Hid (IntAt w'' u (plc xw)) ∧ Below w'.heap.size w' w'') := fun w' hb' => place_any xw HTL.out.x1 HTL.out.x2 HTL.out.x3 _ _ w' (HX16.out w' hb').1
        have HSF : Hid (∀ w', Below w16.heap.size w16 w' → Calls Tryz.prog 13 #[.slice aof lf cf, .slice aof2 lf cf2] w' fun e w'' => e = .returned (.bool true) ∧ Below w'.heap.size w' w'') := fun w' hb' => by
          have := sameK_any xw.from' xw.from' (by have := HTL.out.x1; omega) (by have := HTL.out.x1; omega) _ _ w' (HX16.out w' hb').2.f (HX16.out w' hb').1.f
          rw [beq_self_eq_true] at this
          exact this
        have HSP : Hid (∀ (w' : World) (u u' : Value), IntAt w' u (plc xw) → IntAt w' u' (plc xw) → Calls Tryz.prog 13 #[u, u'] w' fun e w'' => e = .returned (.bool true) ∧ Below w'.heap.size w' w'') := fun w' u u' h1 h2 => by
          have := sameK_any (plc xw) (plc xw) HTL.out.x4 HTL.out.x4 _ _ w' h1 h2
          rw [beq_self_eq_true] at this
          exact this
        obtain ⟨x0, x1, _, _⟩ := HTZ.out w16 (Below.refl _ _)
        clear hx15 hb1315 hb1516 hb1316 HTX HX13
        go_wp2_with fail
        refine (HSF.out w16 (Below.refl _ _)).mono ?_
        rintro e w17 ⟨rfl, hb17⟩
        clear x0 x1 z0 z1
        obtain ⟨x0, x1, z0, z1⟩ := HTZ.out w17 hb17
        go_upto_region 23 with fail
        go_cut [20] from 21 (fun s wc => s = .bool true ∧ Below w16.heap.size w16 wc)
        case first =>
          go_region_with (first
            | (go_at_call_of 14 (Value.slice aof lf cf); refine (HPX.out _ ?_).mono ?_; (first | exact hb17.drew | exact hby); rintro e wx ⟨ux, rfl, hux, hbx0⟩; have hbx : Below w16.heap.size w16 wx := below_more (by first | exact hb17.drew | exact hby) hbx0; obtain ⟨xx0, xx1, xz0, xz1⟩ := HTZ.out _ hbx; try (have huy2 : Hid (IntAt wx uy (plc xw)) := huy.out.keep hbx0))
            | (go_at_call_of 14 (Value.slice aof2 lf cf2); refine (HPY.out _ ?_).mono ?_; (first | exact hb17.drew | exact hbx); rintro e wy ⟨uy, rfl, huy, hby0⟩; have hby : Below w16.heap.size w16 wy := below_more (by first | exact hb17.drew | exact hbx) hby0; obtain ⟨yx0, yx1, yz0, yz1⟩ := HTZ.out _ hby; try (have hux2 : Hid (IntAt wy ux (plc xw)) := hux.out.keep hby0))
            | (go_at_call 13; (first | refine (HSP.out _ ux uy hux.out huy2.out).mono ?_ | refine (HSP.out _ ux uy hux2.out huy.out).mono ?_); rintro e w20 ⟨rfl, hb20⟩; have hb21 : Below w16.heap.size w16 w20 := below_more (by first | exact hbx | exact hby) hb20))
          all_goals
            go_wp2_with fail
            go_meet
            case rel => exact ⟨rfl, hb21⟩
        case rest =>
          obtain ⟨rfl, hbc⟩ := hcut
          clear x0 x1 z0 z1
          obtain ⟨x0, x1, z0, z1⟩ := HTZ.out wc hbc
          go_wp2_with fail
          go_ret
          exact ⟨rfl, below_more hbw16 hbc⟩

end Go.Proofs.YtomijmikkbhgmabGreat

namespace Go.Proofs.YtomijmikkbhgmabGreat
open Go.RowKit

theorem fstC_wit (al : Nat → Bool) (T : List (List Ins)) (E : List Evt) (c : List Atm) (fa : Bool) (N : Nat) : fstC al (fun j => metB T.length c (stX T E (exN E j)) != fa) N = match witL T.length c fa (optL al T E N) 0 with
    | none => -1
    | some k => (k : Int) := by
  unfold fstC
  rw [wit_same]
  generalize (casN al N).find? (fun j => metB T.length c (stX T E (exN E j)) != fa) = o
  cases o <;> rfl

theorem exN_plc (E : List Evt) (hE : E.length ≤ 96) (n : Nat) : (exN E n).from'.length ≤ 96 ∧ (exN E n).order.length = 3 ∧ (∀ y ∈ (exN E n).order, y.length ≤ 96) ∧ (plc (exN E n)).length ≤ 400 := by
  have hx := exN_isEx E n
  have h1 : (exN E n).from'.length ≤ 96 := by
    have := hx.f
    have h2 := rdsX_len E 0
    omega
  have h3 : ∀ y ∈ (exN E n).order, y.length ≤ 96 := fun y hy => by
    obtain ⟨j, hj⟩ := List.getElem?_of_mem hy
    exact hx.len hE hj
  refine ⟨h1, hx.o3, h3, ?_⟩
  unfold plc
  rw [List.length_append]
  have h4 := hx.o3
  generalize (exN E n).order = L at h3 h4
  match L, h4, h3 with
  | [a, b, d], _, h3 =>
    have ha := h3 a (by simp)
    have hb := h3 b (by simp)
    have hd := h3 d (by simp)
    simp
    omega

set_option maxHeartbeats 2000000 in
theorem tells_of (T : List (List Ins)) (fa : Bool) (c : List Atm) (hz : ((chk T c).1 == 0) = true) (al : Nat → Bool) (hal : Als T (evsT T 0) al) : ∃ N G B F KK xw, Tells T fa c N G B F (outT al T) KK xw := by
  have h0 : (chk T c).1 = 0 := by simpa using hz
  have hF := fits_of hz
  have hN := chk_many_no hz
  have hst : ∀ k, ((fun k => stX T (evsT T 0) (exN (evsT T 0) k)) k).length = 3 * T.length + 3 := fun k => stX_len _ _ _
  obtain ⟨hs1, hs2⟩ := sums_out (n := 3 * T.length + 3) (L := stK al (fun k => stX T (evsT T 0) (exN (evsT T 0) k)) (sizeN (evsT T 0))) (fun s hs => by
    obtain ⟨k, _, rfl⟩ := List.mem_map.1 hs
    exact hst k) (ctK_sums al (fun k => stX T (evsT T 0) (exN (evsT T 0) k)) (sizeN (evsT T 0)))
  have hL : stK al (fun k => stX T (evsT T 0) (exN (evsT T 0) k)) (sizeN (evsT T 0)) = stsL al T (evsT T 0) (sizeN (evsT T 0)) := by
    unfold stK stsL
    rw [casN_states]
  obtain ⟨hc1, hc2, hc3⟩ := ctK_fit (n := 3 * T.length + 3) al (fun k => stX T (evsT T 0) (exN (evsT T 0) k)) hst (sizeN (evsT T 0))
  have hg : gdS T.length c (stK al (fun k => stX T (evsT T 0) (exN (evsT T 0) k)) (sizeN (evsT T 0))) = gdN T.length c (optL al T (evsT T 0) (sizeN (evsT T 0))) := by
    rw [hL]; rfl
  have hb : bdS T.length c (stK al (fun k => stX T (evsT T 0) (exN (evsT T 0) k)) (sizeN (evsT T 0))) = bdN T.length c (optL al T (evsT T 0) (sizeN (evsT T 0))) := by
    rw [hL]; rfl
  have hlen := stK_len al (fun k => stX T (evsT T 0) (exN (evsT T 0) k)) (sizeN (evsT T 0))
  have hgl : gdS T.length c (stK al (fun k => stX T (evsT T 0) (exN (evsT T 0) k)) (sizeN (evsT T 0))) ≤ 2000 := by
    have := List.length_filter_le (fun s => metB T.length c s) (stK al (fun k => stX T (evsT T 0) (exN (evsT T 0) k)) (sizeN (evsT T 0)))
    unfold gdS
    omega
  have hbl : bdS T.length c (stK al (fun k => stX T (evsT T 0) (exN (evsT T 0) k)) (sizeN (evsT T 0))) ≤ 2000 := by
    have := List.length_filter_le (fun s => !metB T.length c s) (stK al (fun k => stX T (evsT T 0) (exN (evsT T 0) k)) (sizeN (evsT T 0)))
    unfold bdS
    omega
  have hfst := fstC_wit al T (evsT T 0) c fa (sizeN (evsT T 0))
  have hsz : sizR T c = sizeN (evsT T 0) := by
    unfold sizR
    rw [if_pos hz, cap2_of_le (by omega)]
  -- the first candidate that decides
  obtain ⟨xw, F, hFe, hxw⟩ : ∃ (xw : Exe) (F : Int), fstC al (fun j => metB T.length c (stX T (evsT T 0) (exN (evsT T 0) j)) != fa) (sizeN (evsT T 0)) = F ∧ ((witL T.length c fa (optL al T (evsT T 0) (sizeN (evsT T 0))) 0 = none ∧ F = -1 ∧ xw = ⟨[], []⟩) ∨ ∃ k, witL T.length c fa (optL al T (evsT T 0) (sizeN (evsT T 0))) 0 = some k ∧ F = (k : Int) ∧ k < sizeN (evsT T 0) ∧ xw = exN (evsT T 0) k) := by
    cases hw : witL T.length c fa (optL al T (evsT T 0) (sizeN (evsT T 0))) 0 with
    | none => exact ⟨⟨[], []⟩, -1, by rw [hfst, hw], .inl ⟨rfl, rfl, rfl⟩⟩
    | some k =>
      refine ⟨exN (evsT T 0) k, (k : Int), by rw [hfst, hw], .inr ⟨k, rfl, rfl, ?_, rfl⟩⟩
      rw [wit_same] at hw
      have := List.mem_of_find?_eq_some hw
      unfold casN at this
      exact List.mem_range.1 (List.mem_filter.1 this).1
  have hgath := fun w vt vc ht => gathered_any T fa c hz al hal vt vc w ht
  rw [hFe] at hgath
  refine ⟨sizeN (evsT T 0), _, _, F, _, xw, {
    size := fun w vt vc ht => (sizeP_any T fa c _ vt vc w ht).mono fun e w' h => by rw [hsz, h0] at h; exact h
    gath := hgath
    ver := fun w vt vc ht => (verdictP_any T fa c al hal vt vc w ht).mono fun e w' h => by
      unfold verV at h
      rw [if_pos hz] at h
      rw [hg, hb]
      exact h
    wit := fun w vt vc ht => (witnessP_any T fa c al hal vt vc w ht).mono fun e w' h => by
      obtain ⟨n, vf, vo, er, he, ho, hbe⟩ := h
      rcases ho with ⟨h1, _⟩ | ⟨_, rfl, ho⟩
      · exact absurd h0 h1
      · rcases hxw with ⟨h1, rfl, rfl⟩ | ⟨k, h1, rfl, _, rfl⟩
        · rcases ho with ⟨_, rfl, hx⟩ | ⟨k, h2, _⟩
          · exact ⟨vf, vo, he, hx, hbe⟩
          · rw [h1] at h2; cases h2
        · rcases ho with ⟨h2, _⟩ | ⟨k', h2, rfl, hx⟩
          · rw [h1] at h2; cases h2
          · rw [h1] at h2
            cases h2
            exact ⟨vf, vo, he, hx, hbe⟩
    cand := fun hne w vt vc ht => (candP_any T fa c _ vt vc F w ht).mono fun e w' h => by
      rcases hxw with ⟨_, h1, _⟩ | ⟨k, _, rfl, hk, rfl⟩
      · exact absurd h1 hne
      · obtain ⟨vf, vo, he, hx, hbe⟩ := h
        have e1 : cErr T c (k : Int) = 0 := by
          unfold cErr
          rw [if_pos hz, if_pos ⟨by omega, by omega⟩]
        have e2 : cExe T c (k : Int) = exN (evsT T 0) k := by
          unfold cExe
          rw [if_pos hz, if_pos ⟨by omega, by omega⟩, Int.toNat_natCast]
        rw [e1] at he
        rw [e2] at hx
        exact ⟨vf, vo, he, hx, hbe⟩
    fit := outT_fit hal h0
    t4 := hF.short.t4
    len := by rw [show outT al T = outK (stsL al T (evsT T 0) (sizeN (evsT T 0))) from rfl, ← hL]; exact hs1
    cnt := fun p hp => by rw [show outT al T = outK (stsL al T (evsT T 0) (sizeN (evsT T 0))) from rfl, ← hL]; exact hs2 p hp
    kl := fun p hp => by have h1 := hc3 p hp; have h2 := hF.short.t4; omega
    kc := fun p hp => by have h1 := hc2 p hp; omega
    n2 := hN
    g2 := hgl
    b2 := hbl
    f2 := by rcases hxw with ⟨_, rfl, _⟩ | ⟨k, _, rfl, hk, _⟩ <;> omega
    nof := fun e => by
      rcases hxw with ⟨_, _, h⟩ | ⟨k, _, rfl, _, _⟩
      · exact h
      · omega
    x1 := by
      rcases hxw with ⟨_, _, rfl⟩ | ⟨k, _, _, _, rfl⟩
      · exact Nat.zero_le _
      · have := (exN_plc (evsT T 0) hF.el k).1; omega
    x2 := by
      rcases hxw with ⟨_, _, rfl⟩ | ⟨k, _, _, _, rfl⟩
      · exact Nat.zero_le _
      · have := (exN_plc (evsT T 0) hF.el k).2.1; omega
    x3 := by
      rcases hxw with ⟨_, _, rfl⟩ | ⟨k, _, _, _, rfl⟩
      · intro y hy; cases hy
      · intro y hy; have := (exN_plc (evsT T 0) hF.el k).2.2.1 y hy; omega
    x4 := by
      rcases hxw with ⟨_, _, rfl⟩ | ⟨k, _, _, _, rfl⟩
      · exact Nat.zero_le _
      · have := (exN_plc (evsT T 0) hF.el k).2.2.2; omega }⟩

set_option maxRecDepth 20000 in
set_option maxHeartbeats 1000000 in
theorem summed_any (T : List (List Ins)) (fa : Bool) (c : List Atm) (vt vc : Value) (w : World) (h : TestAt w (.agg #[vt, .bool fa, vc]) T fa c vt vc) :
    Calls Tryz.prog 3 #[.agg #[vt, .bool fa, vc]] w fun e w' => e = .returned (.bool true) ∧ Below w.heap.size w w' := by
  obtain ⟨al, hal⟩ := als_ex T (evsT T 0)
  have hout : ∀ w', Below w.heap.size w w' → Calls Tryz.prog 4 #[.agg #[vt, .bool fa, vc]] w' fun e w'' => ∃ u, e = .returned (.tuple #[u, .bool true]) ∧ KOut T c al w'' u ∧ Below w'.heap.size w' w'' := fun w' hb => outcomesK_any T fa c al hal vt vc w' (h.keep hb)
  cases hz : (chk T c).1 == 0
  · have hne : (chk T c).1 ≠ 0 := by simpa using hz
    have HO : Hid (∀ w', Below w.heap.size w w' → Calls Tryz.prog 4 #[.agg #[vt, .bool fa, vc]] w' fun e w'' => e = .returned (.tuple #[.slice none 0 0, .bool true]) ∧ Below w'.heap.size w' w'') := fun w' hb => (hout w' hb).mono fun e w'' ⟨u, he, hk, hb'⟩ => by
      rcases hk with ⟨_, rfl⟩ | ⟨h1, _⟩
      · exact ⟨he, hb'⟩
      · exact absurd h1 hne
    obtain ⟨ht0, aot, bt, offt, capt, htv, _⟩ := h.ht.opened
    obtain ⟨hc0, aoc, bc, offc, capc, hsc⟩ := h.hc
    have hcv := hsc.hv
    subst htv hcv
    clear h hsc hout hz hne hal
    have nq2 : ∀ (w : World) (n c n' c' : Nat), (binOp .eql 26 (.slice none n c) (.slice none n' c')).run Tryz.prog w = .ok (.bool true) w := fun w n c n' c' => Lib.run_eql_slice_nil w _ _ none n c n' c' Tryz.underlying26
    go_enter Tryz.func3, Tryz.ntmps3
    go_wp2_with fail
    have hba := below_alloc w (.cells #[.slice aot T.length capt, .bool fa, .slice aoc c.length capc] 25)
    refine (HO.out _ hba).mono ?_
    rintro e w3 ⟨rfl, hb3⟩
    have hbw3 := below_more hba hb3
    go_wp2_with fail
    go_ret
    exact ⟨rfl, hbw3⟩
  · have h0 : (chk T c).1 = 0 := by simpa using hz
    obtain ⟨N, G, B, F, KK, xw, htl⟩ := tells_of T fa c hz al hal
    refine summed_core T fa c N G B F (outT al T) KK xw htl vt vc w h (fun w' hb => (hout w' hb).mono fun e w'' ⟨u, he, hk, hb'⟩ => ?_)
    rcases hk with ⟨h1, _⟩ | ⟨_, h1⟩
    · exact absurd h0 h1
    · exact ⟨u, he, h1, hb'⟩

end Go.Proofs.YtomijmikkbhgmabGreat
