import Derived.Test.YtomijmikkbhgmaaGreatT38
import Derived.Test.YtomijmikkbhgmaaGreatT37
import Derived.Test.YtomijmikkbhgmaaGreatT30
import Derived.StillTailTactics
import Derived.Test.YtomijmikkbhgmaaGreatT1
import Derived.Test.YtomijmikkbhgmaaGreatT23
import Derived.JoinedCond
import Derived.Deep.CondSized
namespace Go.Proofs.YtomijmikkbhgmaaGreat
open Go.RowKit

/-- As a test that was handed in is written over. -/
structure SP (B H : Nat) (w wr : World) (g ga na : Nat) (us : List Value) (k : Nat) : Prop where
  btw : Btw B H w wr
  gb : B ≤ g ∧ g < H
  gab : B ≤ ga ∧ ga < H
  atm : Shp wr ga 104 (na * 3)
  ord : Shp wr g 46 us.length
  row : ∀ (j : Nat) (u : Value), k ≤ j → us[j]? = some u → wr.cell? ⟨g, j, none⟩ = some u
  shp : ∀ (j : Nat) (u : Value), us[j]? = some u → ∃ gu n cap, u = .slice (some ⟨gu, 0, none⟩) n cap ∧ B ≤ gu ∧ gu < H ∧ n ≤ 4000000 ∧ Shp wr gu 48 (n * 5)
theorem SP.setI {B H : Nat} {w wr : World} {g ga na : Nat} {us : List Value} {k : Nat} (h : SP B H w wr g ga na us k) {b n : Nat} {t : TypeId} (hb : Shp wr b t n) (ht : t ≠ 46) (hB : B ≤ b ∧ b < H) (o : Nat) (v : Value) : SP B H w (wr.setCell ⟨b, o, none⟩ v) g ga na us k := by
  have hne : g ≠ b := fun e => by
    obtain ⟨c1, q1, _⟩ := h.ord
    obtain ⟨c2, q2, _⟩ := hb
    rw [← e, q1] at q2
    cases q2
    exact ht rfl
  refine ⟨h.btw.trans (Btw.of_only (Only.setCellN b o v wr) hB), h.gb, h.gab, h.atm.set _ _ _, h.ord.set _ _ _, fun j u hj hu => cell_heap (Below.heap_setCell _ _ _ _ hne) (h.row j u hj hu), fun j u hu => ?_⟩
  obtain ⟨gu, n', cap, q1, q2, q3, q4, q5⟩ := h.shp j u hu
  exact ⟨gu, n', cap, q1, q2, q3, q4, q5.set _ _ _⟩
theorem SP.setN {B H : Nat} {w wr : World} {g ga na : Nat} {us : List Value} {k : Nat} (h : SP B H w wr g ga na us k) (v : Value) : SP B H w (wr.setCell ⟨g, k, none⟩ v) g ga na us (k + 1) := by
  refine ⟨h.btw.trans (Btw.of_only (Only.setCellN g k v wr) h.gb), h.gb, h.gab, h.atm.set _ _ _, h.ord.set _ _ _, fun j u hj hu => ?_, fun j u hu => ?_⟩
  · obtain ⟨cur, q1, _⟩ := h.ord
    have q2 := h.row j u (by omega) hu
    rw [cell_of_row _ _ _ _ _ _ q1] at q2
    rw [cell_of_row _ _ _ _ _ _ (heap_setCell_same _ _ _ _ _ _ q1)]
    simp only [Array.getElem?_setIfInBounds]
    rw [if_neg (by omega)]
    exact q2
  · obtain ⟨gu, n', cap, q1, q2, q3, q4, q5⟩ := h.shp j u hu
    exact ⟨gu, n', cap, q1, q2, q3, q4, q5.set _ _ _⟩
theorem Shp.ownS {w : World} {base : Nat} {e : TypeId} {s g n cap : Nat} {xs : List Value} (h : w.ownsRow base e s (.slice (some ⟨g, 0, none⟩) n cap) n xs) : Shp w g e (n * s) := by
  rcases h.2 with ⟨q, _⟩ | ⟨g', cap', cur, q, _, hh, q1, _, q2, _⟩
  · cases q
  · cases q; exact ⟨cur, hh, by rw [q2]; exact Nat.mul_le_mul_right _ q1⟩

set_option maxRecDepth 20000 in
set_option maxHeartbeats 8000000 in
theorem spoil_any (B H : Nat) (T : List (List Ins)) (fa : Bool) (c : List Atm) (hT : T.length ≤ 4000000) (hTl : ∀ l ∈ T, l.length ≤ 4000000) (hc : c.length ≤ 4000000) (ut uc : Value) (vs : List Value) (w : World) (hH : H ≤ w.heap.size) (h : RmT B H w ut uc T c vs) :
    Calls Tryz.prog 37 #[.agg #[ut, .bool fa, uc]] w fun e w' => ∃ r, e = .returned r ∧ Btw B H w w' := by
  obtain ⟨g, cap, gz, hu1, hu2, _, _, _, hu6⟩ := h.thr
  obtain ⟨ga, capa, hu4, hu5⟩ := h.atm
  have hgaH := h.ah
  subst hu1 hu4
  have hvl := h.len
  have hba := below_alloc w (.cells #[.slice (some ⟨g, 0, none⟩) T.length cap, .bool fa, .slice (some ⟨ga, 0, none⟩) c.length capa] 25)
  have HE0 : Hid (SP B H (w.alloc (.cells #[.slice (some ⟨g, 0, none⟩) T.length cap, .bool fa, .slice (some ⟨ga, 0, none⟩) c.length capa] 25)) (w.alloc (.cells #[.slice (some ⟨g, 0, none⟩) T.length cap, .bool fa, .slice (some ⟨ga, 0, none⟩) c.length capa] 25)) g ga c.length vs 0) := by
    refine ⟨Btw.refl _ _ _, ⟨(hu2.lt g rfl).1, hu6⟩, ⟨(hu5.lt ga rfl).1, hgaH ga rfl⟩, ?_, ?_, fun j u _ hu => ?_, fun j u hu => ?_⟩
    · obtain ⟨cur, q1, q2⟩ := (Shp.ownS hu5).keep hba
      exact ⟨cur, q1, by omega⟩
    · obtain ⟨cur, q1, q2⟩ := (Shp.ownS hu2).keep hba
      exact ⟨cur, q1, by omega⟩
    · have hj := (List.getElem?_eq_some_iff.1 hu).1
      refine keep_cell hba ?_
      rw [hu2.cellAt j (by omega), List.getElem?_append_left hj]
      exact hu
    · have hj := (List.getElem?_eq_some_iff.1 hu).1
      obtain ⟨l, hl⟩ := get_of_lt (l := T) (k := j) (by omega)
      obtain ⟨u', q1, q2, q3⟩ := h.rows j l hl
      rw [hu] at q1
      cases q1
      obtain ⟨gu, capu, e, q4⟩ := id q2
      subst e
      obtain ⟨cur, r1, r2⟩ := (Shp.ownS q4).keep hba
      exact ⟨gu, l.length, capu, rfl, (q4.lt gu rfl).1, q3 gu rfl, hTl l (List.mem_of_getElem? hl), cur, r1, by omega⟩
  have HYS : Hid (∀ wr, Btw B H (w.alloc (.cells #[.slice (some ⟨g, 0, none⟩) T.length cap, .bool fa, .slice (some ⟨ga, 0, none⟩) c.length capa] 25)) wr → wr.cell? ⟨w.heap.size, 0, none⟩ = some (.slice (some ⟨g, 0, none⟩) T.length cap) ∧ wr.cell? ⟨w.heap.size, 2, none⟩ = some (.slice (some ⟨ga, 0, none⟩) c.length capa)) := fun wr hbt => ⟨cell_heap (hbt.block _ (by simp) (by omega)) (by simp), cell_heap (hbt.block _ (by simp) (by omega)) (by simp)⟩
  have HBT : Hid (∀ wr, Btw B H (w.alloc (.cells #[.slice (some ⟨g, 0, none⟩) T.length cap, .bool fa, .slice (some ⟨ga, 0, none⟩) c.length capa] 25)) wr → Btw B H w wr) := fun wr hbt => (Btw.of_below hba).trans hbt
  clear h hu2 hu5 hTl hba hgaH
  go_enter Tryz.func37, Tryz.ntmps37
  go_wp2_with fail
  generalize w.alloc (.cells #[.slice (some ⟨g, 0, none⟩) T.length cap, .bool fa, .slice (some ⟨ga, 0, none⟩) c.length capa] 25) = w1 at *
  go_loopw [2, 3] (fun i _ wr => ∃ k : Nat, k ≤ T.length ∧ i = .int .i64 k ∧ Hid (SP B H w1 wr g ga c.length vs k)) (fun i _ _ => T.length - (intOf i).toNat)
  case atStart => exact ⟨0, Nat.zero_le _, rfl, HE0.out⟩
  case round =>
    clear HE0
    obtain ⟨k3, hk3, rfl, hE⟩ := hrel
    obtain ⟨y0, y1⟩ := HYS.out wr hE.out.btw
    by_cases hlt3 : k3 < T.length
    · obtain ⟨u, hu⟩ := get_of_lt (l := vs) (k := k3) (by omega)
      obtain ⟨gu, nu, capu, rfl, hq1, hq2, hq3, _⟩ := hE.out.shp k3 u hu
      have HUU : Hid (vs[k3]? = some (.slice (some ⟨gu, 0, none⟩) nu capu)) := hu
      have hkI3 : (k3 : Int) < (T.length : Int) := by omega
      have HE0 := hE
      have hr0 := hE.out.row k3 _ (Nat.le_refl _) hu
      clear hE hu
      go_wp2_with fail
      clear y0 y1 hr0
      go_loopw [3] (fun i wr => ∃ k : Nat, k ≤ nu ∧ i = .int .i64 k ∧ Hid (SP B H w1 wr g ga c.length vs k3)) (fun i _ => nu - (intOf i).toNat)
      case atStart => exact ⟨0, Nat.zero_le _, rfl, HE0.out⟩
      case round =>
        clear HE0
        obtain ⟨k4, hk4, rfl, hE⟩ := hrel
        obtain ⟨y0, y1⟩ := HYS.out wr hE.out.btw
        have hr0 := hE.out.row k3 _ (Nat.le_refl _) HUU.out
        by_cases hlt4 : k4 < nu
        · obtain ⟨gu', nu', capu', e, _, _, _, hsp⟩ := hE.out.shp k3 _ HUU.out
          simp only [Value.slice.injEq, Option.some.injEq, Addr.mk.injEq, and_true] at e
          obtain ⟨rfl, rfl, rfl⟩ := e
          obtain ⟨⟨z0, c0⟩, f0⟩ := hsp.cell (j := k4 * 5) (by omega)
          obtain ⟨⟨z1, c1⟩, f1⟩ := hsp.cell (j := k4 * 5 + 1) (by omega)
          obtain ⟨⟨z2, c2⟩, f2⟩ := hsp.cell (j := k4 * 5 + 2) (by omega)
          obtain ⟨⟨z3, c3⟩, f3⟩ := hsp.cell (j := k4 * 5 + 3) (by omega)
          obtain ⟨⟨z4, c4⟩, f4⟩ := hsp.cell (j := k4 * 5 + 4) (by omega)
          have h1 := hE.out.setI hsp (by decide) ⟨hq1, hq2⟩ (k4 * 5) (.int .i64 (-1000))
          have h2 := h1.setI (hsp.set _ _ _) (by decide) ⟨hq1, hq2⟩ (k4 * 5 + 1) (.int .i64 0)
          have h3 := h2.setI ((hsp.set _ _ _).set _ _ _) (by decide) ⟨hq1, hq2⟩ (k4 * 5 + 2) (.int .i64 0)
          have h4 := h3.setI (((hsp.set _ _ _).set _ _ _).set _ _ _) (by decide) ⟨hq1, hq2⟩ (k4 * 5 + 3) (.int .i64 0)
          have HE2 := hid (h4.setI ((((hsp.set _ _ _).set _ _ _).set _ _ _).set _ _ _) (by decide) ⟨hq1, hq2⟩ (k4 * 5 + 4) (.int .i64 0))
          have hkI4 : (k4 : Int) < (nu : Int) := by omega
          clear hE hsp h1 h2 h3 h4
          go_wp2_with fail
          go_roundw
          case measure => simp [intOf]; omega
          case rel => exact ⟨k4 + 1, by omega, by go_num, HE2.out⟩
        · have hkI4 : (nu : Int) ≤ (k4 : Int) := by omega
          obtain ⟨⟨z, c0⟩, f0⟩ := hE.out.ord.cell (j := k3) (by omega)
          have HE2 := hid (hE.out.setN (.slice none 0 0))
          clear hE c0
          go_wp2_with fail
          go_roundw
          case measure => simp [intOf]; omega
          case rel => exact ⟨k3 + 1, by omega, by go_num, HE2.out⟩
    · have hkI3 : (T.length : Int) ≤ (k3 : Int) := by omega
      have HE0 := hE
      clear hE
      go_wp2_with fail
      clear y0 y1
      go_loopw [4] (fun i wr => ∃ k : Nat, k ≤ c.length ∧ i = .int .i64 k ∧ Hid (SP B H w1 wr g ga c.length vs k3)) (fun i _ => c.length - (intOf i).toNat)
      case atStart => exact ⟨0, Nat.zero_le _, rfl, HE0.out⟩
      case round =>
        clear HE0
        obtain ⟨k5, hk5, rfl, hE⟩ := hrel
        obtain ⟨y0, y1⟩ := HYS.out wr hE.out.btw
        by_cases hlt5 : k5 < c.length
        · have hsp := hE.out.atm
          obtain ⟨⟨z0, c0⟩, f0⟩ := hsp.cell (j := k5 * 3) (by omega)
          obtain ⟨⟨z1, c1⟩, f1⟩ := hsp.cell (j := k5 * 3 + 1) (by omega)
          obtain ⟨⟨z2, c2⟩, f2⟩ := hsp.cell (j := k5 * 3 + 2) (by omega)
          have h1 := hE.out.setI hsp (by decide) hE.out.gab (k5 * 3) (.int .i64 0)
          have h2 := h1.setI (hsp.set _ _ _) (by decide) hE.out.gab (k5 * 3 + 1) (.int .i64 (-1000))
          have HE2 := hid (h2.setI ((hsp.set _ _ _).set _ _ _) (by decide) hE.out.gab (k5 * 3 + 2) (.int .i64 0))
          have hkI5 : (k5 : Int) < (c.length : Int) := by omega
          clear hE hsp h1 h2
          go_wp2_with fail
          go_roundw
          case measure => simp [intOf]; omega
          case rel => exact ⟨k5 + 1, by omega, by go_num, HE2.out⟩
        · have hkI5 : (c.length : Int) ≤ (k5 : Int) := by omega
          have HE2 := hid (HBT.out wr hE.out.btw)
          clear hE
          go_wp2_with fail
          exact bodyPost_end (v := .tuple #[]) (results_none rfl _ _ _) rfl ⟨_, rfl, HE2.out⟩

/-- pick: some number below n. -/
def pickV (a : Int) (n : Nat) : Nat := (if a < 0 then (-(a + 1)).toNat else a.toNat) % n
theorem pickV_lt (a : Int) (n : Nat) (hn : 0 < n) : pickV a n < n := Nat.mod_lt _ hn
theorem pick_anyW (a : Int) (n : Nat) (hn : 0 < n) (hn2 : n ≤ 4000000) (ha : -9223372036854775808 ≤ a ∧ a ≤ 9223372036854775807) (w : World) :
    Calls Tryz.prog 32 #[.int .i64 a, .int .i64 n] w fun e w' => e = .returned (.int .i64 (pickV a n : Nat)) ∧ w' = w := by
  by_cases h0 : a < 0
  · obtain ⟨b, hb⟩ := Int.eq_ofNat_of_zero_le (a := -(a + 1)) (by omega)
    have hv : pickV a n = b % n := by unfold pickV; rw [if_pos h0, hb]; simp
    rw [hv]
    have ha1 : -9223372036854775808 ≤ a := ha.1
    go_enter Tryz.func32, Tryz.ntmps32
    go_wp2_with fail
    go_ret
    exact ⟨by simp, rfl⟩
  · obtain ⟨b, rfl⟩ := Int.eq_ofNat_of_zero_le (a := a) (by omega)
    have hv : pickV (b : Int) n = b % n := by unfold pickV; rw [if_neg h0]; simp
    rw [hv]
    go_enter Tryz.func32, Tryz.ntmps32
    go_wp2_with fail
    go_ret
    exact ⟨by simp, rfl⟩

end Go.Proofs.YtomijmikkbhgmaaGreat

namespace Go.Proofs.YtomijmikkbhgmaaGreat
open Go.RowKit

/-- The executions that came in. -/
def ExsAt (w : World) (v : Value) : Prop := ∃ (ao : Option Addr) (n cap : Nat), v = .slice ao n cap ∧ n ≤ 4000000 ∧ ∀ k, k < n → ∃ (b off : Nat) (vf vo : Value) (x : Exe), ao = some ⟨b, off, none⟩ ∧ w.cell? ⟨b, off + k * 2, none⟩ = some vf ∧ w.cell? ⟨b, off + k * 2 + 1, none⟩ = some vo ∧ ExeC w vf vo x ∧ x.from'.length ≤ 4000000 ∧ x.order.length ≤ 4000000 ∧ ∀ l ∈ x.order, l.length ≤ 4000000

theorem StOutF.row {B : Nat} {T : List (List Ins)} {c : List Atm} {x : Exe} {w : World} {u : Value} {er : Int} (h : StOutF B T c x w u er) : ∃ l, IntF B w u l := by
  obtain ⟨r, jr, _, h | h | h⟩ := h
  · rw [h.2.2]; exact ⟨[], World.ownsRow_nil _ _ _ _⟩
  · rw [h.2.2.2]; exact ⟨[], World.ownsRow_nil _ _ _ _⟩
  · exact ⟨_, h.2.2.2.2⟩

theorem over_end {b0 : Nat} {w w7 w9 w10 : World} {R : Nat} {vts vxs : Value} {N N' M : Nat} {V : Nat → Value} {F : Nat → List Value} {MB P P7 P9 : Nat → Prop} (h : WM b0 w R vts vxs N V F MB P) (hbw : Below w.heap.size w w7) (t : Took b0 w7 w9 R vts vxs N' P7 P9) (hP : ∀ b, P b → P9 b) {B H : Nat} (hQ : ∀ b, B ≤ b → b < H → P9 b) (hB : w.heap.size ≤ B) (hb : Btw B H w9 w10) (hN : N' ≤ M) : Took b0 w w10 R vts vxs M P P := by
  have hlo := h.lo
  have hrl := heap_ltA h.blk
  have hs := hbw.size
  have hs2 := t.frm.below.size
  obtain ⟨V', F', MB', q⟩ := t.wm
  exact ⟨⟨V', F', MB', (q.write hb.size fun b hb' hn => hb.block b hb' fun q' => hn (hQ b q'.1 q'.2)).le hN hP⟩, ⟨((hbw.mono (by omega)).trans t.frm.below).trans (hb.below (by omega) (by omega)), fun b hp => by
    have hpl := (h.pend b hp).2.1
    rw [hb.block b (by omega) (by omega), t.frm.same b (hP b hp), hbw.block b hpl]⟩, fun _ q => q⟩

set_option maxRecDepth 20000 in
set_option maxHeartbeats 16000000 in
theorem over_any (b0 : Nat) (R : Nat) (vts vxs : Value) (N : Nat) (V : Nat → Value) (F : Nat → List Value) (MB P : Nat → Prop) (w : World) (h : WM b0 w R vts vxs N V F MB P) (hN : N ≤ 10000000000) (w00 : World) (hw00 : w00.heap.size = b0) (hb00 : Below w00.heap.size w00 w) (hxs : ExsAt w00 vxs) (T : List (List Ins)) (fa : Bool) (c : List Atm) (vt vc ut uc : Value) (ht : TestAt w (.agg #[vt, .bool fa, vc]) T fa c vt vc) (hu : TestAt w (.agg #[ut, .bool fa, uc]) T fa c ut uc) (kd a bn : Int) (hbn : -9223372036854775808 ≤ bn ∧ bn ≤ 9223372036854775807) :
    Calls Tryz.prog 34 #[.pointer (some ⟨R, 0, none⟩), .agg #[.int .i64 kd, .int .i64 a, .int .i64 bn], .agg #[vt, .bool fa, vc], .agg #[ut, .bool fa, uc]] w fun e w' => e = .returned (.bool true) ∧ Took b0 w w' R vts vxs (N + 2001) P P := by
  have HW := hid h
  have HT := hid (fun (w' : World) (hb : Below w.heap.size w w') => ht.keep hb)
  have HU := hid (fun (w' : World) (hb : Below w.heap.size w w') => hu.keep hb)
  obtain ⟨⟨a1, n1, p1, e1⟩, ⟨a2, n2, p2, e2⟩⟩ : (∃ a n p, vt = .slice a n p) ∧ ∃ a n p, vc = .slice a n p := by
    obtain ⟨_, a1, _, _, p1, e1, _⟩ := ht.ht
    obtain ⟨_, a2, _, _, p2, e2, _⟩ := ht.hc
    exact ⟨⟨a1, _, p1, e1⟩, ⟨a2, _, p2, e2⟩⟩
  obtain ⟨⟨a3, n3, p3, e3⟩, ⟨a4, n4, p4, e4⟩⟩ : (∃ a n p, ut = .slice a n p) ∧ ∃ a n p, uc = .slice a n p := by
    obtain ⟨_, a1, _, _, p1, e1, _⟩ := hu.ht
    obtain ⟨_, a2, _, _, p2, e2, _⟩ := hu.hc
    exact ⟨⟨a1, _, p1, e1⟩, ⟨a2, _, p2, e2⟩⟩
  subst e1 e2 e3 e4
  obtain ⟨aoX, nX, capX, hvX, hnX, hX⟩ := hxs
  subst hvX
  obtain ⟨_, c1, _⟩ := h.cells
  have hRl := heap_ltA h.blk
  have HX := hid hX
  clear ht hu h hX
  go_enter Tryz.func34, Tryz.ntmps34
  go_upto_region 2 with fail
  have hba : Below w.heap.size w ((((w.alloc (.cells #[.int .i64 kd, .int .i64 a, .int .i64 bn] 43)).alloc (.cells #[.slice a1 n1 p1, .bool fa, .slice a2 n2 p2] 25)).alloc (.cells #[.slice a3 n3 p3, .bool fa, .slice a4 n4 p4] 25)).alloc (.cells #[.slice none 0 0, .slice none 0 0] 29)) := (below_three w _ _ _).alloc (by simp; omega) _
  have hcs : ((((w.alloc (.cells #[.int .i64 kd, .int .i64 a, .int .i64 bn] 43)).alloc (.cells #[.slice a1 n1 p1, .bool fa, .slice a2 n2 p2] 25)).alloc (.cells #[.slice a3 n3 p3, .bool fa, .slice a4 n4 p4] 25)).alloc (.cells #[.slice none 0 0, .slice none 0 0] 29)).cell? ⟨w.heap.size, 0, none⟩ = some (.int .i64 kd) ∧ ((((w.alloc (.cells #[.int .i64 kd, .int .i64 a, .int .i64 bn] 43)).alloc (.cells #[.slice a1 n1 p1, .bool fa, .slice a2 n2 p2] 25)).alloc (.cells #[.slice a3 n3 p3, .bool fa, .slice a4 n4 p4] 25)).alloc (.cells #[.slice none 0 0, .slice none 0 0] 29)).cell? ⟨w.heap.size + 1, 0, none⟩ = some (.slice a1 n1 p1) ∧ ((((w.alloc (.cells #[.int .i64 kd, .int .i64 a, .int .i64 bn] 43)).alloc (.cells #[.slice a1 n1 p1, .bool fa, .slice a2 n2 p2] 25)).alloc (.cells #[.slice a3 n3 p3, .bool fa, .slice a4 n4 p4] 25)).alloc (.cells #[.slice none 0 0, .slice none 0 0] 29)).cell? ⟨w.heap.size + 1, 1, none⟩ = some (.bool fa) ∧ ((((w.alloc (.cells #[.int .i64 kd, .int .i64 a, .int .i64 bn] 43)).alloc (.cells #[.slice a1 n1 p1, .bool fa, .slice a2 n2 p2] 25)).alloc (.cells #[.slice a3 n3 p3, .bool fa, .slice a4 n4 p4] 25)).alloc (.cells #[.slice none 0 0, .slice none 0 0] 29)).cell? ⟨w.heap.size + 1, 2, none⟩ = some (.slice a2 n2 p2) ∧ ((((w.alloc (.cells #[.int .i64 kd, .int .i64 a, .int .i64 bn] 43)).alloc (.cells #[.slice a1 n1 p1, .bool fa, .slice a2 n2 p2] 25)).alloc (.cells #[.slice a3 n3 p3, .bool fa, .slice a4 n4 p4] 25)).alloc (.cells #[.slice none 0 0, .slice none 0 0] 29)).cell? ⟨w.heap.size + 1 + 1, 0, none⟩ = some (.slice a3 n3 p3) ∧ ((((w.alloc (.cells #[.int .i64 kd, .int .i64 a, .int .i64 bn] 43)).alloc (.cells #[.slice a1 n1 p1, .bool fa, .slice a2 n2 p2] 25)).alloc (.cells #[.slice a3 n3 p3, .bool fa, .slice a4 n4 p4] 25)).alloc (.cells #[.slice none 0 0, .slice none 0 0] 29)).cell? ⟨w.heap.size + 1 + 1, 1, none⟩ = some (.bool fa) ∧ ((((w.alloc (.cells #[.int .i64 kd, .int .i64 a, .int .i64 bn] 43)).alloc (.cells #[.slice a1 n1 p1, .bool fa, .slice a2 n2 p2] 25)).alloc (.cells #[.slice a3 n3 p3, .bool fa, .slice a4 n4 p4] 25)).alloc (.cells #[.slice none 0 0, .slice none 0 0] 29)).cell? ⟨w.heap.size + 1 + 1, 2, none⟩ = some (.slice a4 n4 p4) := by refine ⟨?_, ?_, ?_, ?_, ?_, ?_, ?_⟩ <;> simp [go_sem]
  have hy0 : ((((w.alloc (.cells #[.int .i64 kd, .int .i64 a, .int .i64 bn] 43)).alloc (.cells #[.slice a1 n1 p1, .bool fa, .slice a2 n2 p2] 25)).alloc (.cells #[.slice a3 n3 p3, .bool fa, .slice a4 n4 p4] 25)).alloc (.cells #[.slice none 0 0, .slice none 0 0] 29)).cell? ⟨w.heap.size + 1 + 1 + 1, 0, none⟩ = some (.slice none 0 0) := by simp [go_sem]
  have hy1 : ((((w.alloc (.cells #[.int .i64 kd, .int .i64 a, .int .i64 bn] 43)).alloc (.cells #[.slice a1 n1 p1, .bool fa, .slice a2 n2 p2] 25)).alloc (.cells #[.slice a3 n3 p3, .bool fa, .slice a4 n4 p4] 25)).alloc (.cells #[.slice none 0 0, .slice none 0 0] 29)).cell? ⟨w.heap.size + 1 + 1 + 1, 1, none⟩ = some (.slice none 0 0) := by simp [go_sem]
  have hy2 : ((((w.alloc (.cells #[.int .i64 kd, .int .i64 a, .int .i64 bn] 43)).alloc (.cells #[.slice a1 n1 p1, .bool fa, .slice a2 n2 p2] 25)).alloc (.cells #[.slice a3 n3 p3, .bool fa, .slice a4 n4 p4] 25)).alloc (.cells #[.slice none 0 0, .slice none 0 0] 29)).frozen? ⟨w.heap.size + 1 + 1 + 1, 0, none⟩ = false := by simp [go_sem]
  have hy3 : ((((w.alloc (.cells #[.int .i64 kd, .int .i64 a, .int .i64 bn] 43)).alloc (.cells #[.slice a1 n1 p1, .bool fa, .slice a2 n2 p2] 25)).alloc (.cells #[.slice a3 n3 p3, .bool fa, .slice a4 n4 p4] 25)).alloc (.cells #[.slice none 0 0, .slice none 0 0] 29)).frozen? ⟨w.heap.size + 1 + 1 + 1, 1, none⟩ = false := by simp [go_sem]
  have hy4 : ((((w.alloc (.cells #[.int .i64 kd, .int .i64 a, .int .i64 bn] 43)).alloc (.cells #[.slice a1 n1 p1, .bool fa, .slice a2 n2 p2] 25)).alloc (.cells #[.slice a3 n3 p3, .bool fa, .slice a4 n4 p4] 25)).alloc (.cells #[.slice none 0 0, .slice none 0 0] 29)).cell? ⟨w.heap.size, 2, none⟩ = some (.int .i64 bn) := by simp [go_sem]
  generalize ((((w.alloc (.cells #[.int .i64 kd, .int .i64 a, .int .i64 bn] 43)).alloc (.cells #[.slice a1 n1 p1, .bool fa, .slice a2 n2 p2] 25)).alloc (.cells #[.slice a3 n3 p3, .bool fa, .slice a4 n4 p4] 25)).alloc (.cells #[.slice none 0 0, .slice none 0 0] 29)) = W4 at *
  replace c1 := keep_cell hba c1
  have HCS := hid (fun (w' : World) (hb : Below W4.heap.size W4 w') => (⟨keep_cell hb hcs.1, keep_cell hb hcs.2.1, keep_cell hb hcs.2.2.1, keep_cell hb hcs.2.2.2.1, keep_cell hb hcs.2.2.2.2.1, keep_cell hb hcs.2.2.2.2.2.1, keep_cell hb hcs.2.2.2.2.2.2⟩ : w'.cell? ⟨w.heap.size, 0, none⟩ = some (.int .i64 kd) ∧ w'.cell? ⟨w.heap.size + 1, 0, none⟩ = some (.slice a1 n1 p1) ∧ w'.cell? ⟨w.heap.size + 1, 1, none⟩ = some (.bool fa) ∧ w'.cell? ⟨w.heap.size + 1, 2, none⟩ = some (.slice a2 n2 p2) ∧ w'.cell? ⟨w.heap.size + 1 + 1, 0, none⟩ = some (.slice a3 n3 p3) ∧ w'.cell? ⟨w.heap.size + 1 + 1, 1, none⟩ = some (.bool fa) ∧ w'.cell? ⟨w.heap.size + 1 + 1, 2, none⟩ = some (.slice a4 n4 p4)))
  clear hcs
  by_cases hX0 : nX = 0
  · subst hX0
    go_upto_region 4 with fail
    have HQ : Hid (ExeC w00 (.slice none 0 0) (.slice none 0 0) ⟨[], []⟩ ∧ (⟨[], []⟩ : Exe).from'.length ≤ 4000000 ∧ (⟨[], []⟩ : Exe).order.length ≤ 4000000 ∧ ∀ l ∈ (⟨[], []⟩ : Exe).order, l.length ≤ 4000000) := ⟨⟨(intAt_nil w00 0).at', none, 0, 0, 0, rfl, fun h => absurd rfl h, fun _ => ⟨rfl, rfl⟩, fun k x h => by simp at h⟩, by simp, by simp, fun l hl => by cases hl⟩
    have HC2 := HCS
    have hbc := hba
    obtain ⟨wc, hwc⟩ : ∃ x, x = W4 := ⟨_, rfl⟩
    subst hwc
    have y0 := hy0
    have y1 := hy1
    generalize (⟨[], []⟩ : Exe) = x at HQ
    clear HX
    obtain ⟨x0, x1, x2, x3, x4, x5, x6⟩ := HC2.out wc (Below.refl _ _)
    have HEXC := hid (executionL_any x HQ.out.2.1 HQ.out.2.2.1 HQ.out.2.2.2 _ _ wc (HQ.out.1.at'.keep (below_more hb00 hbc)))
    go_wp2_with fail
    refine HEXC.out.mono ?_
    rintro e w5 ⟨uf, uo, us, rfl, hew, hb5⟩
    clear HEXC
    obtain ⟨g, capg, gz, hu1, _⟩ := id hew.o
    obtain ⟨gf, capf2, hf1, _⟩ := id hew.f
    subst hu1 hf1
    have HEW := hid hew
    clear hew
    have hba5 := below_alloc w5 (.cells #[.slice (some ⟨gf, 0, none⟩) x.from'.length capf2, .slice (some ⟨g, 0, none⟩) x.order.length capg] 29)
    have hb5a := below_more hb5 hba5
    have z0 : (w5.alloc (.cells #[.slice (some ⟨gf, 0, none⟩) x.from'.length capf2, .slice (some ⟨g, 0, none⟩) x.order.length capg] 29)).cell? ⟨w5.heap.size, 0, none⟩ = some (.slice (some ⟨gf, 0, none⟩) x.from'.length capf2) := by simp
    have z1 : (w5.alloc (.cells #[.slice (some ⟨gf, 0, none⟩) x.from'.length capf2, .slice (some ⟨g, 0, none⟩) x.order.length capg] 29)).cell? ⟨w5.heap.size, 1, none⟩ = some (.slice (some ⟨g, 0, none⟩) x.order.length capg) := by simp
    have y0' := keep_cell hb5a y0
    have y1' := keep_cell hb5a y1
    obtain ⟨v0, v1, v2, v3, v4, v5, v6⟩ := HC2.out _ hb5a
    have hcl : w.heap.size ≤ wc.heap.size := hbc.size
    have hc5 := hb5.size
    by_cases k5 : kd = 5
    · subst k5
      have HJ1 := hid (judgeP_any T fa c _ _ x _ _ (w5.alloc (.cells #[.slice (some ⟨gf, 0, none⟩) x.from'.length capf2, .slice (some ⟨g, 0, none⟩) x.order.length capg] 29)) (HU.out _ (below_more hbc hb5a)) (HEW.out.at'.keep hba5))
      go_wp2_with fail
      refine HJ1.out.mono ?_
      rintro e w6 ⟨r, er, rfl, hj, hb6⟩
      have hb56 := below_more hba5 hb6
      have hbc6 := below_more hb5 hb56
      clear HJ1 v0 v1 v2 v3 v4 v5 v6
      obtain ⟨v0, v1, v2, v3, v4, v5, v6⟩ := HC2.out _ hbc6
      have y0'' := keep_cell hbc6 y0
      have y1'' := keep_cell hbc6 y1
      replace z0 := keep_cell hb6 z0
      replace z1 := keep_cell hb6 z1
      have HJ2 := hid (judgeR_any T fa c _ _ x _ _ w6 (HT.out _ (below_more hbc hbc6)) (HQ.out.1.keep (below_more hb00 (below_more hbc hbc6))))
      go_wp2_with fail
      refine HJ2.out.mono ?_
      rintro e w7 ⟨r', er', rfl, hj', hb7⟩
      obtain ⟨hr, her⟩ := hj.one hj'
      subst hr her
      have hb57 := below_more hb56 hb7
      have hbc7 := below_more hb5 hb57
      have hbw7 := below_more hbc hbc7
      have t0 := keep_cell hbc7 y0
      have t1 := keep_cell hbc7 y1
      replace z0 := keep_cell hb7 z0
      replace z1 := keep_cell hb7 z1
      have n0 : (r == r) = true := by simp
      have n1 : (er == er) = true := by simp
      have h57 := hb57.size
      have HEK := hid (execKept_any x HQ.out.2.1 HQ.out.2.2.1 HQ.out.2.2.2 wc.heap.size w5.heap.size _ _ _ _ us w7 h57 (HEW.out.keep fun b _ hb' => hb57.block b hb') (HQ.out.1.at'.keep (below_more hb00 hbw7)))
      clear HJ2 hj hj' v0 v1 v2 v3 v4 v5 v6 y0'' y1''
      go_wp2_with fail
      refine HEK.out.mono ?_
      rintro e w8 ⟨rfl, hb8⟩
      have HK := hid (over_end HW.out hbw7 (w9 := w7) (P9 := fun b => P b ∨ (w.heap.size ≤ b ∧ b < w7.heap.size)) ⟨⟨V, F, MB, HW.out.more hbw7⟩, Frm.refl _ _ _, fun _ q => q⟩ (fun b hp => .inl hp) (fun b q1 q2 => .inr ⟨by omega, by omega⟩) hcl hb8 (M := N + 2001) (by omega))
      clear HEK
      go_wp2_with fail
      go_ret
      exact ⟨rfl, HK.out⟩
    · have k5' : (kd == 5) = false := by simpa using k5
      have HJ1 := hid (stateP_own T fa c _ _ x _ _ (w5.alloc (.cells #[.slice (some ⟨gf, 0, none⟩) x.from'.length capf2, .slice (some ⟨g, 0, none⟩) x.order.length capg] 29)) (HU.out _ (below_more hbc hb5a)) (HEW.out.at'.keep hba5))
      go_wp2_with fail
      refine HJ1.out.mono ?_
      rintro e w6 ⟨u, er, rfl, hst, hb6⟩
      have hb56 := below_more hba5 hb6
      have hbc6 := below_more hb5 hb56
      clear HJ1 v0 v1 v2 v3 v4 v5 v6
      obtain ⟨v0, v1, v2, v3, v4, v5, v6⟩ := HC2.out _ hbc6
      have y0'' := keep_cell hbc6 y0
      have y1'' := keep_cell hbc6 y1
      replace z0 := keep_cell hb6 z0
      replace z1 := keep_cell hb6 z1
      obtain ⟨l, hl⟩ := hst.row
      obtain ⟨aou, capu, hfu, _⟩ := own_form hl
      subst hfu
      have HL := hid hl
      have HSO := hid hst
      have HJ2 := hid (stateR_any T fa c _ _ x _ _ w6 (HT.out _ (below_more hbc hbc6)) (HQ.out.1.keep (below_more hb00 (below_more hbc hbc6))))
      clear hl hst
      go_wp2_with fail
      refine HJ2.out.mono ?_
      rintro e w7 ⟨u', er', rfl, hst', hb7⟩
      obtain ⟨her, l2, hl2, hi1, hi2⟩ := StOut.same HSO.out.new.at' hst'
      subst her
      obtain ⟨ao2', cap2', hf2'⟩ := hi2.form
      subst hf2'
      have HSI := hid (sameInts_any l2 (by omega) _ _ w7 (hi1.keep hb7) hi2)
      clear HJ2 hst' hi1 hi2 v0 v1 v2 v3 v4 v5 v6 y0'' y1'' HSO
      go_wp2_with fail
      refine HSI.out.mono ?_
      rintro e w8 ⟨rfl, hb8⟩
      have hb68 := below_more hb7 hb8
      have hb58 := below_more hb56 hb68
      have hbc8 := below_more hb5 hb58
      have hbw8 := below_more hbc hbc8
      have h58 := hb58.size
      have hu5 : ∀ b, (Value.slice aou l.length capu).ownBlock = some b → w5.heap.size + 1 ≤ b ∧ b < w6.heap.size := fun b hb => by have := World.ownsRow.lt HL.out b hb; simpa using this
      have n1 : (er == er) = true := by simp
      have HMN := hid (mine_any b0 R vts _ N V F MB _ w8 (HW.out.more hbw8) (by omega) _ _ _ _ (own_keep HL.out hb68) (fun b hb => .inr ⟨by have := (hu5 b hb).1; omega, by have := (hu5 b hb).2; have := hb68.size; omega⟩))
      have t0 := keep_cell hbc8 y0
      have t1 := keep_cell hbc8 y1
      replace z0 := keep_cell hb68 z0
      replace z1 := keep_cell hb68 z1
      have HU5 := hid hu5
      have hS3l := World.block_lt_of_cell? _ _ y0
      have hz5l := World.block_lt_of_cell? _ _ z0
      simp only at hS3l hz5l
      clear HSI hu5 HL
      go_wp2_with fail
      refine HMN.out.mono ?_
      rintro e w9 ⟨r, rfl, ht9⟩
      have hp9 : ∀ b, w.heap.size ≤ b → b ≤ w5.heap.size → (P b ∨ (w.heap.size ≤ b ∧ b < w8.heap.size)) ∧ (Value.slice aou l.length capu).ownBlock ≠ some b := fun b h1 h2 => ⟨.inr ⟨h1, by omega⟩, fun e => by have := (HU5.out b e).1; omega⟩
      have t2 := cell_heap (ht9.frm.same _ (hp9 (w.heap.size + 1 + 1 + 1) (by omega) (by omega))) t0
      have t3 := cell_heap (ht9.frm.same _ (hp9 (w.heap.size + 1 + 1 + 1) (by omega) (by omega))) t1
      replace z0 := cell_heap (ht9.frm.same _ (hp9 w5.heap.size (by omega) (Nat.le_refl _))) z0
      replace z1 := cell_heap (ht9.frm.same _ (hp9 w5.heap.size (by omega) (Nat.le_refl _))) z1
      have hs9 := ht9.frm.below.size
      have hb009 : Below w00.heap.size w00 w9 := (below_more hb00 hbw8).trans (by rw [hw00]; exact ht9.frm.below)
      have HEK := hid (execKept_any x HQ.out.2.1 HQ.out.2.2.1 HQ.out.2.2.2 wc.heap.size w5.heap.size _ _ _ _ us w9 (by omega) (HEW.out.keep fun b h1 h2 => (ht9.frm.same b (hp9 b (by omega) (by omega))).trans (hb58.block b h2)) (HQ.out.1.at'.keep hb009))
      have HEN := hid (fun (w10 : World) (hb10 : Btw wc.heap.size w5.heap.size w9 w10) => over_end HW.out hbw8 ht9 (fun b hp => ⟨.inl hp, fun e => by have := (HU5.out b e).1; have := (HW.out.pend b hp).2.1; omega⟩) (fun b q1 q2 => hp9 b (by omega) (by omega)) hcl hb10 (M := N + 2001) (by omega))
      clear HMN ht9 hp9 t0 t1
      go_wp2_with fail
      refine HEK.out.mono ?_
      rintro e w10 ⟨rfl, hb10⟩
      have HK := hid (HEN.out w10 hb10)
      clear HEK HEN
      go_wp2_with fail
      go_ret
      exact ⟨rfl, HK.out⟩
  · have hgt : (0 : Int) < (nX : Int) := by omega
    have hgt' : decide (0 < nX) = true := by simp; omega
    obtain ⟨b, off, vf, vo, x, rfl, q0, q1, q2⟩ := HX.out (pickV bn nX) (pickV_lt bn nX (by omega))
    have HQ := hid q2
    obtain ⟨aof, cf, hff⟩ := q2.1.f.form
    obtain ⟨aoo, bo, oo, co, hso⟩ := q2.1.at'.o
    have hfo := hso.hv
    subst hff hfo
    clear hso
    have hpl := pickV_lt bn nX (by omega)
    replace q0 := keep_cell (below_more hb00 hba) q0
    replace q1 := keep_cell (below_more hb00 hba) q1
    have HPK : Hid (∀ w', Calls Tryz.prog 32 #[.int .i64 bn, .int .i64 nX] w' fun e w'' => e = .returned (.int .i64 (pickV bn nX : Nat)) ∧ w'' = w') := fun w' => pick_anyW bn nX (by omega) hnX hbn w'
    generalize pickV bn nX = k at *
    clear q2
    go_upto_region 3 with fail
    refine wp_region_still_tail 14 (by kernel_rfl) (by kernel_rfl) ?_
    simp only [List.take_succ_cons, List.take_zero, List.drop_succ_cons, List.drop_zero]
    repeat still_step
    still_call (HPK.out _)
    repeat still_step
    refine wpStill_nil ?_
    go_upto_region 4 with fail
    have hbc : Below w.heap.size w ((W4.setCell ⟨w.heap.size + 1 + 1 + 1, 0, none⟩ (.slice aof x.from'.length cf)).setCell ⟨w.heap.size + 1 + 1 + 1, 1, none⟩ (.slice aoo x.order.length co)).drew := ((hba.setCell (by show w.heap.size ≤ w.heap.size + 1 + 1 + 1; omega) _).setCell (by show w.heap.size ≤ w.heap.size + 1 + 1 + 1; omega) _).drew
    have y0 : ((W4.setCell ⟨w.heap.size + 1 + 1 + 1, 0, none⟩ (.slice aof x.from'.length cf)).setCell ⟨w.heap.size + 1 + 1 + 1, 1, none⟩ (.slice aoo x.order.length co)).drew.cell? ⟨w.heap.size + 1 + 1 + 1, 0, none⟩ = some (.slice aof x.from'.length cf) := by simp [go_sem, hy0]
    have y1 : ((W4.setCell ⟨w.heap.size + 1 + 1 + 1, 0, none⟩ (.slice aof x.from'.length cf)).setCell ⟨w.heap.size + 1 + 1 + 1, 1, none⟩ (.slice aoo x.order.length co)).drew.cell? ⟨w.heap.size + 1 + 1 + 1, 1, none⟩ = some (.slice aoo x.order.length co) := by simp [go_sem, hy1]
    have HC2 : Hid (∀ w', Below ((W4.setCell ⟨w.heap.size + 1 + 1 + 1, 0, none⟩ (.slice aof x.from'.length cf)).setCell ⟨w.heap.size + 1 + 1 + 1, 1, none⟩ (.slice aoo x.order.length co)).drew.heap.size ((W4.setCell ⟨w.heap.size + 1 + 1 + 1, 0, none⟩ (.slice aof x.from'.length cf)).setCell ⟨w.heap.size + 1 + 1 + 1, 1, none⟩ (.slice aoo x.order.length co)).drew w' → w'.cell? ⟨w.heap.size, 0, none⟩ = some (.int .i64 kd) ∧ w'.cell? ⟨w.heap.size + 1, 0, none⟩ = some (.slice a1 n1 p1) ∧ w'.cell? ⟨w.heap.size + 1, 1, none⟩ = some (.bool fa) ∧ w'.cell? ⟨w.heap.size + 1, 2, none⟩ = some (.slice a2 n2 p2) ∧ w'.cell? ⟨w.heap.size + 1 + 1, 0, none⟩ = some (.slice a3 n3 p3) ∧ w'.cell? ⟨w.heap.size + 1 + 1, 1, none⟩ = some (.bool fa) ∧ w'.cell? ⟨w.heap.size + 1 + 1, 2, none⟩ = some (.slice a4 n4 p4)) := fun w' hb => by
      obtain ⟨q0, q1, q2, q3, q4, q5, q6⟩ := HCS.out W4 (Below.refl _ _)
      refine ⟨keep_cell hb ?_, keep_cell hb ?_, keep_cell hb ?_, keep_cell hb ?_, keep_cell hb ?_, keep_cell hb ?_, keep_cell hb ?_⟩ <;> simp [go_sem, *]
    generalize ((W4.setCell ⟨w.heap.size + 1 + 1 + 1, 0, none⟩ (.slice aof x.from'.length cf)).setCell ⟨w.heap.size + 1 + 1 + 1, 1, none⟩ (.slice aoo x.order.length co)).drew = wc at *
    obtain ⟨x0, x1, x2, x3, x4, x5, x6⟩ := HC2.out wc (Below.refl _ _)
    have HEXC := hid (executionL_any x HQ.out.2.1 HQ.out.2.2.1 HQ.out.2.2.2 _ _ wc (HQ.out.1.at'.keep (below_more hb00 hbc)))
    go_wp2_with fail
    refine HEXC.out.mono ?_
    rintro e w5 ⟨uf, uo, us, rfl, hew, hb5⟩
    clear HEXC
    obtain ⟨g, capg, gz, hu1, _⟩ := id hew.o
    obtain ⟨gf, capf2, hf1, _⟩ := id hew.f
    subst hu1 hf1
    have HEW := hid hew
    clear hew
    have hba5 := below_alloc w5 (.cells #[.slice (some ⟨gf, 0, none⟩) x.from'.length capf2, .slice (some ⟨g, 0, none⟩) x.order.length capg] 29)
    have hb5a := below_more hb5 hba5
    have z0 : (w5.alloc (.cells #[.slice (some ⟨gf, 0, none⟩) x.from'.length capf2, .slice (some ⟨g, 0, none⟩) x.order.length capg] 29)).cell? ⟨w5.heap.size, 0, none⟩ = some (.slice (some ⟨gf, 0, none⟩) x.from'.length capf2) := by simp
    have z1 : (w5.alloc (.cells #[.slice (some ⟨gf, 0, none⟩) x.from'.length capf2, .slice (some ⟨g, 0, none⟩) x.order.length capg] 29)).cell? ⟨w5.heap.size, 1, none⟩ = some (.slice (some ⟨g, 0, none⟩) x.order.length capg) := by simp
    have y0' := keep_cell hb5a y0
    have y1' := keep_cell hb5a y1
    obtain ⟨v0, v1, v2, v3, v4, v5, v6⟩ := HC2.out _ hb5a
    have hcl : w.heap.size ≤ wc.heap.size := hbc.size
    have hc5 := hb5.size
    by_cases k5 : kd = 5
    · subst k5
      have HJ1 := hid (judgeP_any T fa c _ _ x _ _ (w5.alloc (.cells #[.slice (some ⟨gf, 0, none⟩) x.from'.length capf2, .slice (some ⟨g, 0, none⟩) x.order.length capg] 29)) (HU.out _ (below_more hbc hb5a)) (HEW.out.at'.keep hba5))
      go_wp2_with fail
      refine HJ1.out.mono ?_
      rintro e w6 ⟨r, er, rfl, hj, hb6⟩
      have hb56 := below_more hba5 hb6
      have hbc6 := below_more hb5 hb56
      clear HJ1 v0 v1 v2 v3 v4 v5 v6
      obtain ⟨v0, v1, v2, v3, v4, v5, v6⟩ := HC2.out _ hbc6
      have y0'' := keep_cell hbc6 y0
      have y1'' := keep_cell hbc6 y1
      replace z0 := keep_cell hb6 z0
      replace z1 := keep_cell hb6 z1
      have HJ2 := hid (judgeR_any T fa c _ _ x _ _ w6 (HT.out _ (below_more hbc hbc6)) (HQ.out.1.keep (below_more hb00 (below_more hbc hbc6))))
      go_wp2_with fail
      refine HJ2.out.mono ?_
      rintro e w7 ⟨r', er', rfl, hj', hb7⟩
      obtain ⟨hr, her⟩ := hj.one hj'
      subst hr her
      have hb57 := below_more hb56 hb7
      have hbc7 := below_more hb5 hb57
      have hbw7 := below_more hbc hbc7
      have t0 := keep_cell hbc7 y0
      have t1 := keep_cell hbc7 y1
      replace z0 := keep_cell hb7 z0
      replace z1 := keep_cell hb7 z1
      have n0 : (r == r) = true := by simp
      have n1 : (er == er) = true := by simp
      have h57 := hb57.size
      have HEK := hid (execKept_any x HQ.out.2.1 HQ.out.2.2.1 HQ.out.2.2.2 wc.heap.size w5.heap.size _ _ _ _ us w7 h57 (HEW.out.keep fun b _ hb' => hb57.block b hb') (HQ.out.1.at'.keep (below_more hb00 hbw7)))
      clear HJ2 hj hj' v0 v1 v2 v3 v4 v5 v6 y0'' y1''
      go_wp2_with fail
      refine HEK.out.mono ?_
      rintro e w8 ⟨rfl, hb8⟩
      have HK := hid (over_end HW.out hbw7 (w9 := w7) (P9 := fun b => P b ∨ (w.heap.size ≤ b ∧ b < w7.heap.size)) ⟨⟨V, F, MB, HW.out.more hbw7⟩, Frm.refl _ _ _, fun _ q => q⟩ (fun b hp => .inl hp) (fun b q1 q2 => .inr ⟨by omega, by omega⟩) hcl hb8 (M := N + 2001) (by omega))
      clear HEK
      go_wp2_with fail
      go_ret
      exact ⟨rfl, HK.out⟩
    · have k5' : (kd == 5) = false := by simpa using k5
      have HJ1 := hid (stateP_own T fa c _ _ x _ _ (w5.alloc (.cells #[.slice (some ⟨gf, 0, none⟩) x.from'.length capf2, .slice (some ⟨g, 0, none⟩) x.order.length capg] 29)) (HU.out _ (below_more hbc hb5a)) (HEW.out.at'.keep hba5))
      go_wp2_with fail
      refine HJ1.out.mono ?_
      rintro e w6 ⟨u, er, rfl, hst, hb6⟩
      have hb56 := below_more hba5 hb6
      have hbc6 := below_more hb5 hb56
      clear HJ1 v0 v1 v2 v3 v4 v5 v6
      obtain ⟨v0, v1, v2, v3, v4, v5, v6⟩ := HC2.out _ hbc6
      have y0'' := keep_cell hbc6 y0
      have y1'' := keep_cell hbc6 y1
      replace z0 := keep_cell hb6 z0
      replace z1 := keep_cell hb6 z1
      obtain ⟨l, hl⟩ := hst.row
      obtain ⟨aou, capu, hfu, _⟩ := own_form hl
      subst hfu
      have HL := hid hl
      have HSO := hid hst
      have HJ2 := hid (stateR_any T fa c _ _ x _ _ w6 (HT.out _ (below_more hbc hbc6)) (HQ.out.1.keep (below_more hb00 (below_more hbc hbc6))))
      clear hl hst
      go_wp2_with fail
      refine HJ2.out.mono ?_
      rintro e w7 ⟨u', er', rfl, hst', hb7⟩
      obtain ⟨her, l2, hl2, hi1, hi2⟩ := StOut.same HSO.out.new.at' hst'
      subst her
      obtain ⟨ao2', cap2', hf2'⟩ := hi2.form
      subst hf2'
      have HSI := hid (sameInts_any l2 (by omega) _ _ w7 (hi1.keep hb7) hi2)
      clear HJ2 hst' hi1 hi2 v0 v1 v2 v3 v4 v5 v6 y0'' y1'' HSO
      go_wp2_with fail
      refine HSI.out.mono ?_
      rintro e w8 ⟨rfl, hb8⟩
      have hb68 := below_more hb7 hb8
      have hb58 := below_more hb56 hb68
      have hbc8 := below_more hb5 hb58
      have hbw8 := below_more hbc hbc8
      have h58 := hb58.size
      have hu5 : ∀ b, (Value.slice aou l.length capu).ownBlock = some b → w5.heap.size + 1 ≤ b ∧ b < w6.heap.size := fun b hb => by have := World.ownsRow.lt HL.out b hb; simpa using this
      have n1 : (er == er) = true := by simp
      have HMN := hid (mine_any b0 R vts _ N V F MB _ w8 (HW.out.more hbw8) (by omega) _ _ _ _ (own_keep HL.out hb68) (fun b hb => .inr ⟨by have := (hu5 b hb).1; omega, by have := (hu5 b hb).2; have := hb68.size; omega⟩))
      have t0 := keep_cell hbc8 y0
      have t1 := keep_cell hbc8 y1
      replace z0 := keep_cell hb68 z0
      replace z1 := keep_cell hb68 z1
      have HU5 := hid hu5
      have hS3l := World.block_lt_of_cell? _ _ y0
      have hz5l := World.block_lt_of_cell? _ _ z0
      simp only at hS3l hz5l
      clear HSI hu5 HL
      go_wp2_with fail
      refine HMN.out.mono ?_
      rintro e w9 ⟨r, rfl, ht9⟩
      have hp9 : ∀ b, w.heap.size ≤ b → b ≤ w5.heap.size → (P b ∨ (w.heap.size ≤ b ∧ b < w8.heap.size)) ∧ (Value.slice aou l.length capu).ownBlock ≠ some b := fun b h1 h2 => ⟨.inr ⟨h1, by omega⟩, fun e => by have := (HU5.out b e).1; omega⟩
      have t2 := cell_heap (ht9.frm.same _ (hp9 (w.heap.size + 1 + 1 + 1) (by omega) (by omega))) t0
      have t3 := cell_heap (ht9.frm.same _ (hp9 (w.heap.size + 1 + 1 + 1) (by omega) (by omega))) t1
      replace z0 := cell_heap (ht9.frm.same _ (hp9 w5.heap.size (by omega) (Nat.le_refl _))) z0
      replace z1 := cell_heap (ht9.frm.same _ (hp9 w5.heap.size (by omega) (Nat.le_refl _))) z1
      have hs9 := ht9.frm.below.size
      have hb009 : Below w00.heap.size w00 w9 := (below_more hb00 hbw8).trans (by rw [hw00]; exact ht9.frm.below)
      have HEK := hid (execKept_any x HQ.out.2.1 HQ.out.2.2.1 HQ.out.2.2.2 wc.heap.size w5.heap.size _ _ _ _ us w9 (by omega) (HEW.out.keep fun b h1 h2 => (ht9.frm.same b (hp9 b (by omega) (by omega))).trans (hb58.block b h2)) (HQ.out.1.at'.keep hb009))
      have HEN := hid (fun (w10 : World) (hb10 : Btw wc.heap.size w5.heap.size w9 w10) => over_end HW.out hbw8 ht9 (fun b hp => ⟨.inl hp, fun e => by have := (HU5.out b e).1; have := (HW.out.pend b hp).2.1; omega⟩) (fun b q1 q2 => hp9 b (by omega) (by omega)) hcl hb10 (M := N + 2001) (by omega))
      clear HMN ht9 hp9 t0 t1
      go_wp2_with fail
      refine HEK.out.mono ?_
      rintro e w10 ⟨rfl, hb10⟩
      have HK := hid (HEN.out w10 hb10)
      clear HEK HEN
      go_wp2_with fail
      go_ret
      exact ⟨rfl, HK.out⟩

end Go.Proofs.YtomijmikkbhgmaaGreat

namespace Go.Proofs.YtomijmikkbhgmaaGreat
open Go.RowKit

/-- The tests that came in. -/
def TssAt (w : World) (v : Value) : Prop := ∃ (ao : Option Addr) (n cap : Nat), v = .slice ao n cap ∧ n ≤ 4000000 ∧ ∀ k, k < n → ∃ (b off : Nat) (vt vc : Value) (T : List (List Ins)) (fa : Bool) (c : List Atm), ao = some ⟨b, off, none⟩ ∧ w.cell? ⟨b, off + k * 3, none⟩ = some vt ∧ w.cell? ⟨b, off + k * 3 + 1, none⟩ = some (.bool fa) ∧ w.cell? ⟨b, off + k * 3 + 2, none⟩ = some vc ∧ TestAt w (.agg #[vt, .bool fa, vc]) T fa c vt vc ∧ T.length ≤ 4000000 ∧ (∀ l ∈ T, l.length ≤ 4000000) ∧ c.length ≤ 4000000

/-- The script that came in. -/
def OpsAt (w : World) (v : Value) : Prop := ∃ (ao : Option Addr) (n cap : Nat), v = .slice ao n cap ∧ n ≤ 4000000 ∧ ∀ k, k < n → ∃ (b off : Nat) (kd a bn : Int), ao = some ⟨b, off, none⟩ ∧ w.cell? ⟨b, off + k * 3, none⟩ = some (.int .i64 kd) ∧ w.cell? ⟨b, off + k * 3 + 1, none⟩ = some (.int .i64 a) ∧ w.cell? ⟨b, off + k * 3 + 2, none⟩ = some (.int .i64 bn) ∧ (-9223372036854775808 ≤ a ∧ a ≤ 9223372036854775807) ∧ (-9223372036854775808 ≤ bn ∧ bn ≤ 9223372036854775807)

end Go.Proofs.YtomijmikkbhgmaaGreat

namespace Go.Proofs.YtomijmikkbhgmaaGreat
open Go.ChangeShapes Go.WideShapes Go.ChangeAt Go.RowKit Go.Deep

theorem bulkA_one {H : Type} (d : DataW H) : 1 ≤ Rows.uptoBulk d := by
  cases d with
  | lit l => cases l <;> simp [Rows.uptoBulk]
  | nil => simp [Rows.uptoBulk]
  | ptr d => simp [Rows.uptoBulk]
  | slice elems spare => simp [Rows.uptoBulk]
  | agg parts => simp [Rows.uptoBulk]
  | iface t d => simp [Rows.uptoBulk]
  | map entries => simp [Rows.uptoBulk]
  | held h => simp [Rows.uptoBulk]
theorem bulkA_part {H : Type} {d : DataW H} {l : List (DataW H)} (h : d ∈ l) : Rows.uptoBulk d ≤ Rows.uptoBulkAll l := by
  induction l with
  | nil => cases h
  | cons x r ih =>
    simp only [Rows.uptoBulkAll]
    cases List.mem_cons.1 h with
    | inl e => subst e; omega
    | inr e => have := ih e; omega
theorem bulkA_len {H : Type} (l : List (DataW H)) : l.length ≤ Rows.uptoBulkAll l := by
  induction l with
  | nil => simp [Rows.uptoBulkAll]
  | cons x r ih => have := bulkA_one x; simp only [Rows.uptoBulkAll, List.length_cons]; omega
theorem bulkA_sl {H : Type} {el sp : List (DataW H)} {n : Nat} (h : Rows.uptoBulk (DataW.slice el sp) ≤ n) : el.length ≤ n ∧ ∀ d ∈ el, Rows.uptoBulk d ≤ n := by
  simp only [Rows.uptoBulk] at h
  refine ⟨?_, fun d hd => ?_⟩
  · have := bulkA_len el; omega
  · have := bulkA_part hd; omega

theorem i64_rangeA {n : Int} (wn : (Lit.int .i64 n).wf = true) : -9223372036854775808 ≤ n ∧ n ≤ 9223372036854775807 := by
  simp only [Lit.wf, Bool.and_eq_true, decide_eq_true_eq] at wn
  have e1 : IntKind.i64.min = -9223372036854775808 := rfl
  have e2 : IntKind.i64.max = 9223372036854775807 := rfl
  rw [e1, e2] at wn
  omega

theorem Tryz.cellsOpA : Tryz.prog.cellsOf 43 = 3 := by kernel_rfl

section
variable {H : Type} {enc : TypeId × Value → H} {w : World}

theorem openA_ins {fuel : Nat} {v : Value} {x : DataW H × List MemPlace} (h : DataW.trod enc Tryz.prog w 0 (fun _ => true) true fuel 46 [v] = some x) (_hw : ∀ n ∈ x.1.weights Tryz.prog 46, n ≤ reachBytes) (hbk : Rows.uptoBulk x.1 ≤ 1048576) : ∃ l, InsAt w v l ∧ l.length ≤ 1048576 := by
  obtain ⟨l, ao, b, off, cap, hs, hl⟩ := open_sl (α := Ins) ⟨0, 0, 0, 0, 0⟩ (C := InsC) (s := 5) (by decide) Tryz.underlying46 Tryz.cellsInstr (fun _ => True)
    (fun fuel cs x hx _ => by
      obtain ⟨i, rfl⟩ := open_instr hx
      exact ⟨i, fun b off hc => ⟨hc 0 _ rfl, hc 1 _ rfl, hc 2 _ rfl, hc 3 _ rfl, hc 4 _ rfl⟩⟩) h (fun _ _ _ _ _ => trivial)
  rcases hl with ⟨_, rfl⟩ | ⟨el, sp, e, hel⟩
  · exact ⟨[], ⟨by simp, ao, b, off, cap, hs⟩, by simp⟩
  · rw [e] at hbk
    have := (bulkA_sl hbk).1
    exact ⟨l, ⟨by omega, ao, b, off, cap, hs⟩, by omega⟩

structure ThrCA (w : World) (b off : Nat) (l : List Ins) : Prop where
  ex : ∃ u, w.cell? ⟨b, off, none⟩ = some u ∧ InsAt w u l
  le : l.length ≤ 1048576

theorem openA_thr {fuel : Nat} {v : Value} {x : DataW H × List MemPlace} (h : DataW.trod enc Tryz.prog w 0 (fun _ => true) true fuel 22 [v] = some x) (hw : ∀ n ∈ x.1.weights Tryz.prog 22, n ≤ reachBytes) (hbk : Rows.uptoBulk x.1 ≤ 1048576) : ∃ T, ThrAt w v T ∧ T.length ≤ 1048576 ∧ ∀ l ∈ T, l.length ≤ 1048576 := by
  obtain ⟨l, ao, b, off, cap, hs, hl⟩ := open_sl (α := List Ins) [] (C := ThrCA) (s := 1) (by decide) Tryz.underlying22 Tryz.cellsInstrs (fun d => (∀ n ∈ d.weights Tryz.prog 46, n ≤ reachBytes) ∧ Rows.uptoBulk d ≤ 1048576)
    (fun fuel cs x hx hok => by
      have hform : ∃ u, cs = [u] := by
        rcases open_slice Tryz.underlying46 hx with ⟨hcs, _⟩ | ⟨a, len, cap, m, n, D, Pl, hcs, _⟩
        · exact ⟨_, hcs⟩
        · exact ⟨_, hcs⟩
      obtain ⟨u, rfl⟩ := hform
      obtain ⟨l, hl, hle⟩ := openA_ins hx hok.1 hok.2
      exact ⟨l, fun b off hc => ⟨⟨u, hc 0 _ rfl, hl⟩, hle⟩⟩) h (fun el sp e d hd => by
        rw [e] at hw hbk
        exact ⟨(weights_slice Tryz.underlying22 hw).2 d hd, (bulkA_sl hbk).2 d hd⟩)
  have hlen : l.length ≤ 1048576 := by
    rcases hl with ⟨_, rfl⟩ | ⟨el, sp, e, hel⟩
    · simp
    · rw [e] at hbk
      have := (bulkA_sl hbk).1
      omega
  exact ⟨l, ⟨by omega, ao, b, off, cap, hs.hv, hs.ha, hs.hn, fun k x hx => (hs.hc k x hx).ex⟩, hlen, fun x hx => by obtain ⟨k, hk⟩ := List.getElem?_of_mem hx; exact (hs.hc k x hk).le⟩

theorem openA_atms {fuel : Nat} {v : Value} {x : DataW H × List MemPlace} (h : DataW.trod enc Tryz.prog w 0 (fun _ => true) true fuel 23 [v] = some x) (hbk : Rows.uptoBulk x.1 ≤ 1048576) : ∃ l, AtmAt w v l ∧ l.length ≤ 1048576 := by
  obtain ⟨l, ao, b, off, cap, hs, hl⟩ := open_sl (α := Atm) ⟨0, 0, 0⟩ (C := AtmC) (s := 3) (by decide) Tryz.underlying23 Tryz.cellsAtom (fun _ => True)
    (fun fuel cs x hx _ => by
      obtain ⟨i, rfl⟩ := open_atm hx
      exact ⟨i, fun b off hc => ⟨hc 0 _ rfl, hc 1 _ rfl, hc 2 _ rfl⟩⟩) h (fun _ _ _ _ _ => trivial)
  have hlen : l.length ≤ 1048576 := by
    rcases hl with ⟨_, rfl⟩ | ⟨el, sp, e, hel⟩
    · simp
    · rw [e] at hbk
      have := (bulkA_sl hbk).1
      omega
  exact ⟨l, ⟨by omega, ao, b, off, cap, hs⟩, hlen⟩

def TesCA (w : World) (b off : Nat) (_ : Unit) : Prop := ∃ (vt vc : Value) (T : List (List Ins)) (fa : Bool) (c : List Atm), w.cell? ⟨b, off, none⟩ = some vt ∧ w.cell? ⟨b, off + 1, none⟩ = some (.bool fa) ∧ w.cell? ⟨b, off + 2, none⟩ = some vc ∧ TestAt w (.agg #[vt, .bool fa, vc]) T fa c vt vc ∧ T.length ≤ 4000000 ∧ (∀ l ∈ T, l.length ≤ 4000000) ∧ c.length ≤ 4000000

set_option maxRecDepth 100000 in
theorem openA_test {fuel : Nat} {cs : List Value} {x : DataW H × List MemPlace} (h : DataW.trod enc Tryz.prog w 0 (fun _ => true) true fuel 25 cs = some x) (hw : ∀ n ∈ x.1.weights Tryz.prog 25, n ≤ reachBytes) (hbk : Rows.uptoBulk x.1 ≤ 1048576) :
    ∃ (vt vc : Value) (T : List (List Ins)) (fa : Bool) (c : List Atm), cs = [vt, .bool fa, vc] ∧ TestAt w (.agg #[vt, .bool fa, vc]) T fa c vt vc ∧ T.length ≤ 4000000 ∧ (∀ l ∈ T, l.length ≤ 4000000) ∧ c.length ≤ 4000000 := by
  obtain ⟨xs, n, _, e, hl, hx, hf⟩ := DataW.trod_struct Tryz.underlying25 h
  rw [Tryz.cellsTest] at hl
  match cs, hl with
  | [v0, v1, v2], _ =>
    have hxs : xs.length = 3 := hx
    match xs, hxs with
    | [x0, x1, x2], _ =>
      have h0 : DataW.trod enc Tryz.prog w 0 (fun _ => true) true n 22 [v0] = some x0 := hf 0 _ rfl
      have h1 : DataW.trod enc Tryz.prog w 0 (fun _ => true) true n 4 [v1] = some x1 := hf 1 _ rfl
      have h2 : DataW.trod enc Tryz.prog w 0 (fun _ => true) true n 23 [v2] = some x2 := hf 2 _ rfl
      subst e
      have hwe : ∀ n ∈ DataW.weightsEach Tryz.prog [22, 4, 23] [x0.1, x1.1, x2.1], n ≤ reachBytes := by
        intro n hn
        refine hw n ?_
        simp only [DataW.weights, Tryz.underlying25]
        exact hn
      simp only [List.map_cons, List.map_nil, Rows.uptoBulk, Rows.uptoBulkAll] at hbk
      obtain ⟨T, hT, hT1, hT2⟩ := openA_thr h0 (fun n hn => hwe n (DataW.weights_mem_each (j := 0) rfl rfl n hn)) (by omega)
      obtain ⟨fa, e1, _⟩ := DataW.trod_bool Tryz.underlying4 h1
      simp at e1
      subst e1
      obtain ⟨c, hc, hc1⟩ := openA_atms h2 (by omega)
      exact ⟨v0, v2, T, fa, c, rfl, ⟨rfl, hT, hc⟩, by omega, fun l hl => by have := hT2 l hl; omega, by omega⟩

theorem openA_tests {fuel : Nat} {v : Value} {x : DataW H × List MemPlace} (h : DataW.trod enc Tryz.prog w 0 (fun _ => true) true fuel 32 [v] = some x) (hw : ∀ n ∈ x.1.weights Tryz.prog 32, n ≤ reachBytes) (hbk : Rows.uptoBulk x.1 ≤ 1048576) : TssAt w v := by
  obtain ⟨l, ao, b, off, cap, hs, hl⟩ := open_sl (α := Unit) () (C := TesCA) (s := 3) (by decide) Tryz.underlying32 Tryz.cellsTest (fun d => (∀ n ∈ d.weights Tryz.prog 25, n ≤ reachBytes) ∧ Rows.uptoBulk d ≤ 1048576)
    (fun fuel cs x hx hok => by
      obtain ⟨vt, vc, T, fa, c, rfl, ht⟩ := openA_test hx hok.1 hok.2
      exact ⟨(), fun b off hc => ⟨vt, vc, T, fa, c, hc 0 _ rfl, hc 1 _ rfl, hc 2 _ rfl, ht⟩⟩) h (fun el sp e d hd => by
        rw [e] at hw hbk
        exact ⟨(weights_slice Tryz.underlying32 hw).2 d hd, (bulkA_sl hbk).2 d hd⟩)
  have hlen : l.length ≤ 1048576 := by
    rcases hl with ⟨_, rfl⟩ | ⟨el, sp, e, hel⟩
    · simp
    · rw [e] at hbk
      have := (bulkA_sl hbk).1
      omega
  refine ⟨ao, l.length, cap, hs.hv, by omega, fun k hk => ?_⟩
  obtain ⟨vt, vc, T, fa, c, q⟩ := hs.hc k () (by rw [List.getElem?_eq_getElem hk])
  exact ⟨b, off, vt, vc, T, fa, c, hs.ha (fun e => by rw [e] at hk; simp at hk), q⟩

theorem openA_ints {fuel : Nat} {v : Value} {x : DataW H × List MemPlace} (h : DataW.trod enc Tryz.prog w 0 (fun _ => true) true fuel 26 [v] = some x) (hbk : Rows.uptoBulk x.1 ≤ 1048576) : ∃ l : List Int, l.length ≤ 1048576 ∧ IntCap w v l := by
  obtain ⟨l, ao, b, off, cap, hs, hl⟩ := open_sl (α := Int) 0 (C := IntC) (s := 1) (by decide) Tryz.underlying26 Tryz.cellsInt (fun _ => True)
    (fun fuel cs x hx _ => by
      obtain ⟨a, e, _, _⟩ := DataW.trod_int Tryz.underlying3 hx
      subst e
      exact ⟨a, fun b off hc => hc 0 _ rfl⟩) h (fun _ _ _ _ _ => trivial)
  have hcap : l.length ≤ cap := by
    have hv := hs.hv
    rcases open_slice Tryz.underlying26 h with ⟨hcs, _⟩ | ⟨a, len, cap', m, n, D, Pl, hcs, _, hlc, _⟩
    · simp at hcs
      rw [hcs] at hv
      simp only [Value.slice.injEq] at hv
      omega
    · simp at hcs
      rw [hcs] at hv
      simp only [Value.slice.injEq] at hv
      omega
  have hlen : l.length ≤ 1048576 := by
    rcases hl with ⟨_, rfl⟩ | ⟨el, sp, e, hel⟩
    · simp
    · rw [e] at hbk
      have := (bulkA_sl hbk).1
      omega
  exact ⟨l, hlen, ao, b, off, cap, hs, hcap⟩

def LCA (w : World) (b off : Nat) (l : List Int) : Prop := l.length ≤ 1048576 ∧ LCC w b off l

theorem openA_lists {fuel : Nat} {v : Value} {x : DataW H × List MemPlace} (h : DataW.trod enc Tryz.prog w 0 (fun _ => true) true fuel 27 [v] = some x) (hbk : Rows.uptoBulk x.1 ≤ 1048576) :
    ∃ L : List (List Int), L.length ≤ 1048576 ∧ (∀ l ∈ L, l.length ≤ 1048576) ∧ ∃ ao b off cap, SlAt w 1 LCC v L ao b off cap := by
  obtain ⟨l, ao, b, off, cap, hs, hl⟩ := open_sl (α := List Int) [] (C := LCA) (s := 1) (by decide) Tryz.underlying27 Tryz.cellsInts (fun d => Rows.uptoBulk d ≤ 1048576)
    (fun fuel cs x hx hok => by
      have hform : ∃ u, cs = [u] := by
        rcases open_slice Tryz.underlying26 hx with ⟨hcs, _⟩ | ⟨a, len, cap, m, n, D, Pl, hcs, _⟩
        · exact ⟨_, hcs⟩
        · exact ⟨_, hcs⟩
      obtain ⟨u, rfl⟩ := hform
      obtain ⟨l, hl1, hl2⟩ := openA_ints hx hok
      exact ⟨l, fun b off hc => ⟨hl1, u, hc 0 _ rfl, hl2⟩⟩) h (fun el sp e d hd => by rw [e] at hbk; exact (bulkA_sl hbk).2 d hd)
  have hlen : l.length ≤ 1048576 := by
    rcases hl with ⟨_, rfl⟩ | ⟨el, sp, e, hel⟩
    · simp
    · rw [e] at hbk
      have := (bulkA_sl hbk).1
      omega
  refine ⟨l, hlen, fun m hm => ?_, ao, b, off, cap, hs.hv, hs.ha, hs.hn, fun k m hm => (hs.hc k m hm).2⟩
  obtain ⟨k, hk⟩ := List.mem_iff_getElem?.1 hm
  exact (hs.hc k m hk).1

def ExeCA (w : World) (b off : Nat) (_ : Unit) : Prop := ∃ (vf vo : Value) (x : Exe), w.cell? ⟨b, off, none⟩ = some vf ∧ w.cell? ⟨b, off + 1, none⟩ = some vo ∧ ExeC w vf vo x ∧ x.from'.length ≤ 4000000 ∧ x.order.length ≤ 4000000 ∧ ∀ l ∈ x.order, l.length ≤ 4000000

set_option maxRecDepth 100000 in
theorem openA_exe {fuel : Nat} {cs : List Value} {x : DataW H × List MemPlace} (h : DataW.trod enc Tryz.prog w 0 (fun _ => true) true fuel 29 cs = some x) (hbk : Rows.uptoBulk x.1 ≤ 1048576) :
    ∃ (vf vo : Value) (y : Exe), cs = [vf, vo] ∧ ExeC w vf vo y ∧ y.from'.length ≤ 4000000 ∧ y.order.length ≤ 4000000 ∧ ∀ l ∈ y.order, l.length ≤ 4000000 := by
  obtain ⟨xs, n, _, e, hl, hx, hf⟩ := DataW.trod_struct Tryz.underlying29 h
  rw [Tryz.cellsExec] at hl
  match cs, hl with
  | [v0, v1], _ =>
    have hxs : xs.length = 2 := hx
    match xs, hxs with
    | [x0, x1], _ =>
      have h0 : DataW.trod enc Tryz.prog w 0 (fun _ => true) true n 26 [v0] = some x0 := hf 0 _ rfl
      have h1 : DataW.trod enc Tryz.prog w 0 (fun _ => true) true n 27 [v1] = some x1 := hf 1 _ rfl
      subst e
      simp only [List.map_cons, List.map_nil, Rows.uptoBulk, Rows.uptoBulkAll] at hbk
      obtain ⟨F, hF1, hF2⟩ := openA_ints h0 (by omega)
      obtain ⟨L, hL1, hL2, hL3⟩ := openA_lists h1 (by omega)
      exact ⟨v0, v1, ⟨F, L⟩, rfl, ⟨hF2.at', hL3⟩, by show F.length ≤ _; omega, by show L.length ≤ _; omega, fun l hl => by have := hL2 l hl; omega⟩

theorem openA_execs {fuel : Nat} {v : Value} {x : DataW H × List MemPlace} (h : DataW.trod enc Tryz.prog w 0 (fun _ => true) true fuel 33 [v] = some x) (hbk : Rows.uptoBulk x.1 ≤ 1048576) : ExsAt w v := by
  obtain ⟨l, ao, b, off, cap, hs, hl⟩ := open_sl (α := Unit) () (C := ExeCA) (s := 2) (by decide) Tryz.underlying33 Tryz.cellsExec (fun d => Rows.uptoBulk d ≤ 1048576)
    (fun fuel cs x hx hok => by
      obtain ⟨vf, vo, y, rfl, ht⟩ := openA_exe hx hok
      exact ⟨(), fun b off hc => ⟨vf, vo, y, hc 0 _ rfl, hc 1 _ rfl, ht⟩⟩) h (fun el sp e d hd => by rw [e] at hbk; exact (bulkA_sl hbk).2 d hd)
  have hlen : l.length ≤ 1048576 := by
    rcases hl with ⟨_, rfl⟩ | ⟨el, sp, e, hel⟩
    · simp
    · rw [e] at hbk
      have := (bulkA_sl hbk).1
      omega
  refine ⟨ao, l.length, cap, hs.hv, by omega, fun k hk => ?_⟩
  obtain ⟨vf, vo, y, q⟩ := hs.hc k () (by rw [List.getElem?_eq_getElem hk])
  exact ⟨b, off, vf, vo, y, hs.ha (fun e => by rw [e] at hk; simp at hk), q⟩

def OpCA (w : World) (b off : Nat) (_ : Unit) : Prop := ∃ (kd a bn : Int), w.cell? ⟨b, off, none⟩ = some (.int .i64 kd) ∧ w.cell? ⟨b, off + 1, none⟩ = some (.int .i64 a) ∧ w.cell? ⟨b, off + 2, none⟩ = some (.int .i64 bn) ∧ (-9223372036854775808 ≤ a ∧ a ≤ 9223372036854775807) ∧ (-9223372036854775808 ≤ bn ∧ bn ≤ 9223372036854775807)

set_option maxRecDepth 100000 in
theorem openA_op {fuel : Nat} {cs : List Value} {x : DataW H × List MemPlace} (h : DataW.trod enc Tryz.prog w 0 (fun _ => true) true fuel 43 cs = some x) :
    ∃ (kd a bn : Int), cs = [.int .i64 kd, .int .i64 a, .int .i64 bn] ∧ (-9223372036854775808 ≤ a ∧ a ≤ 9223372036854775807) ∧ (-9223372036854775808 ≤ bn ∧ bn ≤ 9223372036854775807) := by
  obtain ⟨xs, n, _, _, hl, hx, hf⟩ := DataW.trod_struct Tryz.underlying43 h
  rw [Tryz.cellsOpA] at hl
  match cs, hl with
  | [v0, v1, v2], _ =>
    have hxs : xs.length = 3 := hx
    match xs, hxs with
    | [x0, x1, x2], _ =>
      have h0 : DataW.trod enc Tryz.prog w 0 (fun _ => true) true n 3 [v0] = some x0 := hf 0 _ rfl
      have h1 : DataW.trod enc Tryz.prog w 0 (fun _ => true) true n 3 [v1] = some x1 := hf 1 _ rfl
      have h2 : DataW.trod enc Tryz.prog w 0 (fun _ => true) true n 3 [v2] = some x2 := hf 2 _ rfl
      obtain ⟨a0, e0, _, _⟩ := DataW.trod_int Tryz.underlying3 h0
      obtain ⟨a1, e1, _, w1⟩ := DataW.trod_int Tryz.underlying3 h1
      obtain ⟨a2, e2, _, w2⟩ := DataW.trod_int Tryz.underlying3 h2
      simp at e0 e1 e2
      subst e0 e1 e2
      exact ⟨a0, a1, a2, rfl, i64_rangeA w1, i64_rangeA w2⟩

theorem openA_ops {fuel : Nat} {v : Value} {x : DataW H × List MemPlace} (h : DataW.trod enc Tryz.prog w 0 (fun _ => true) true fuel 34 [v] = some x) (hbk : Rows.uptoBulk x.1 ≤ 1048576) : OpsAt w v := by
  obtain ⟨l, ao, b, off, cap, hs, hl⟩ := open_sl (α := Unit) () (C := OpCA) (s := 3) (by decide) Tryz.underlying34 Tryz.cellsOpA (fun _ => True)
    (fun fuel cs x hx _ => by
      obtain ⟨kd, a, bn, rfl, ht⟩ := openA_op hx
      exact ⟨(), fun b off hc => ⟨kd, a, bn, hc 0 _ rfl, hc 1 _ rfl, hc 2 _ rfl, ht⟩⟩) h (fun _ _ _ _ _ => trivial)
  have hlen : l.length ≤ 1048576 := by
    rcases hl with ⟨_, rfl⟩ | ⟨el, sp, e, hel⟩
    · simp
    · rw [e] at hbk
      have := (bulkA_sl hbk).1
      omega
  refine ⟨ao, l.length, cap, hs.hv, by omega, fun k hk => ?_⟩
  obtain ⟨kd, a, bn, q⟩ := hs.hc k () (by rw [List.getElem?_eq_getElem hk])
  exact ⟨b, off, kd, a, bn, hs.ha (fun e => by rw [e] at hk; simp at hk), q⟩

end

end Go.Proofs.YtomijmikkbhgmaaGreat
