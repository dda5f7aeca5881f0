import Derived.Test.YtomijmikkbhgmabUd
namespace Go.Proofs.Ytomijmikkbhgmab
open Go.RowKit

def KnC (w : World) (b off : Nat) (k : Knw) : Prop := ∃ vt vc, w.cell? ⟨b, off, none⟩ = some vt ∧ w.cell? ⟨b, off + 1, none⟩ = some (.bool false) ∧ w.cell? ⟨b, off + 2, none⟩ = some vc ∧ w.cell? ⟨b, off + 3, none⟩ = some (.int .i64 k.good) ∧ w.cell? ⟨b, off + 4, none⟩ = some (.int .i64 k.bad) ∧ TestAt w (.agg #[vt, .bool false, vc]) k.T false k.c vt vc

def knV (q : (Value × Value) × Knw) : List Value := [q.1.1, .bool false, q.1.2, .int .i64 q.2.good, .int .i64 q.2.bad]
theorem kn_lit {w : World} {t : TypeId} (ps : List ((Value × Value) × Knw)) (h : ∀ q ∈ ps, TestAt w (.agg #[q.1.1, .bool false, q.1.2]) q.2.T false q.2.c q.1.1 q.1.2) (k : Nat) (x : Knw) (hk : (ps.map (·.2))[k]? = some x) : KnC (w.alloc (.cells (ps.flatMap knV).toArray t)) w.heap.size (k * 5) x := by
  rw [List.getElem?_map] at hk
  cases hq : ps[k]? with
  | none => rw [hq] at hk; simp at hk
  | some q =>
    rw [hq] at hk
    have e : q.2 = x := by simpa using hk
    subst e
    have hc : ∀ j u, (knV q)[j]? = some u → (w.alloc (.cells (ps.flatMap knV).toArray t)).cell? ⟨w.heap.size, k * 5 + j, none⟩ = some u := fun j u hj => by
      have hj5 : j < 5 := (List.getElem?_eq_some_iff.1 hj).1
      rw [cell_of_row _ _ _ (ps.flatMap knV).toArray t (0, 0) (heap_alloc_new w _)]
      have := flat_get knV 5 (fun _ => rfl) ps k j q hq hj5
      simpa [this] using hj
    exact ⟨_, _, hc 0 _ rfl, hc 1 _ rfl, hc 2 _ rfl, hc 3 _ rfl, hc 4 _ rfl, (h q (List.mem_of_getElem? hq)).keep (below_alloc _ _)⟩

theorem test_form {w : World} {vt vc : Value} {T : List (List Ins)} {fa : Bool} {c : List Atm} (h : TestAt w (.agg #[vt, .bool fa, vc]) T fa c vt vc) : (∃ a n p, vt = .slice a n p) ∧ ∃ a n p, vc = .slice a n p := by
  obtain ⟨_, a1, _, _, p1, e1, _⟩ := h.ht
  obtain ⟨_, a2, _, _, p2, e2, _⟩ := h.hc
  exact ⟨⟨a1, _, p1, e1⟩, ⟨a2, _, p2, e2⟩⟩

theorem insAt_nil (w : World) : InsAt w (.slice none 0 0) [] := ⟨by simp, none, 0, 0, 0, rfl, fun h => absurd rfl h, fun _ => ⟨rfl, rfl⟩, fun k x h => by simp at h⟩
theorem insAt_one (w : World) (x : Ins) : InsAt (w.alloc (.cells (insV x).toArray 37)) (.slice (some ⟨w.heap.size, 0, none⟩) 1 1) [x] := by
  have := InsS.lit (B := 0) (w := w) (l := [x]) (t := 37) (Nat.zero_le _) (by simp) _ (Same.refl _ _)
  simpa using this

set_option maxRecDepth 100000 in
set_option maxHeartbeats 16000000 in
theorem table_any (w : World) : Calls Try.prog 22 #[] w fun e w' => ∃ b, e = .returned (.slice (some ⟨b, 0, none⟩) 16 16) ∧ Hid (∀ (k : Nat) (x : Knw), tabK[k]? = some x → KnC w' b (k * 5) x) ∧ Below w.heap.size w w' := by
  go_enter Try.func22, Try.ntmps22
  go_wp2_with fail
  refine (fence_any _ _).mono ?_
  rintro e f0 ⟨rfl, hc⟩
  have hF0 := insAt_one f0 (fenI 0)
  have hbl := below_alloc f0 (.cells #[.int .i64 4, .int .i64 0, .int .i64 0, .int .i64 0, .int .i64 0] 37)
  have hb := below_more hc hbl
  go_upto_region 2 with fail
  have hF0' : InsAt (f0.alloc (.cells #[.int .i64 4, .int .i64 0, .int .i64 0, .int .i64 0, .int .i64 0] 37)) (.slice (some ⟨f0.heap.size, 0, none⟩) 1 1) [fenI 0] := hF0
  clear hF0 hc
  generalize f0.alloc (.cells #[.int .i64 4, .int .i64 0, .int .i64 0, .int .i64 0, .int .i64 0] 37) = g0 at hF0' hb hbl  ⊢
  generalize f0.heap.size = P0 at hF0' ⊢
  have hF0 := hF0'
  clear hF0' hbl
  go_wp2_with fail
  refine (fence_any _ _).mono ?_
  rintro e f1 ⟨rfl, hc⟩
  have hF1 := insAt_one f1 (fenI 1)
  have hbl := below_alloc f1 (.cells #[.int .i64 4, .int .i64 0, .int .i64 0, .int .i64 0, .int .i64 1] 37)
  replace hF0 := (hF0.keep hc).keep hbl
  replace hb := below_more (below_more hb hc) hbl
  go_upto_region 3 with fail
  have hF1' : InsAt (f1.alloc (.cells #[.int .i64 4, .int .i64 0, .int .i64 0, .int .i64 0, .int .i64 1] 37)) (.slice (some ⟨f1.heap.size, 0, none⟩) 1 1) [fenI 1] := hF1
  clear hF1 hc
  generalize f1.alloc (.cells #[.int .i64 4, .int .i64 0, .int .i64 0, .int .i64 0, .int .i64 1] 37) = g1 at hF1' hb hbl hF0 ⊢
  generalize f1.heap.size = P1 at hF1' ⊢
  have hF1 := hF1'
  clear hF1' hbl
  go_wp2_with fail
  refine (fence_any _ _).mono ?_
  rintro e f2 ⟨rfl, hc⟩
  have hF2 := insAt_one f2 (fenI 2)
  have hbl := below_alloc f2 (.cells #[.int .i64 4, .int .i64 0, .int .i64 0, .int .i64 0, .int .i64 2] 37)
  replace hF0 := (hF0.keep hc).keep hbl
  replace hF1 := (hF1.keep hc).keep hbl
  replace hb := below_more (below_more hb hc) hbl
  go_upto_region 4 with fail
  have hF2' : InsAt (f2.alloc (.cells #[.int .i64 4, .int .i64 0, .int .i64 0, .int .i64 0, .int .i64 2] 37)) (.slice (some ⟨f2.heap.size, 0, none⟩) 1 1) [fenI 2] := hF2
  clear hF2 hc
  generalize f2.alloc (.cells #[.int .i64 4, .int .i64 0, .int .i64 0, .int .i64 0, .int .i64 2] 37) = g2 at hF2' hb hbl hF0 hF1 ⊢
  generalize f2.heap.size = P2 at hF2' ⊢
  have hF2 := hF2'
  clear hF2' hbl
  have HFF : Hid (InsAt g2 (.slice (some ⟨P0, 0, none⟩) 1 1) [fenI 0] ∧ InsAt g2 (.slice (some ⟨P1, 0, none⟩) 1 1) [fenI 1] ∧ InsAt g2 (.slice (some ⟨P2, 0, none⟩) 1 1) [fenI 2]) := ⟨hF0, hF1, hF2⟩
  clear hF0 hF1 hF2
  have hz : Below g2.heap.size g2 g2 := Below.refl _ _
  go_wp2_with fail
  refine (buffers_any [] (by simp) _ 1 g2 (insAt_nil _)).mono ?_
  rintro e x0 ⟨vt, vc, rfl, ht, hc⟩
  obtain ⟨⟨a0, n0, p0, e1⟩, ⟨d0, m0, q0, e2⟩⟩ := test_form ht
  subst e1 e2
  have T0 : Hid (TestAt x0 (.agg #[.slice a0 n0 p0, .bool false, .slice d0 m0 q0]) (bufK [] 1).T false (bufK [] 1).c (.slice a0 n0 p0) (.slice d0 m0 q0)) := ht
  replace hz := below_more hz hc
  clear ht hc
  go_wp2_with fail
  refine (buffers_any [fenI 0] (by simp) _ 0 x0 (HFF.out.1.keep hz)).mono ?_
  rintro e x1 ⟨vt, vc, rfl, ht, hc⟩
  obtain ⟨⟨a1, n1, p1, e1⟩, ⟨d1, m1, q1, e2⟩⟩ := test_form ht
  subst e1 e2
  have T0' := T0.out.keep hc
  clear T0
  have T0 : Hid (TestAt x1 (.agg #[.slice a0 n0 p0, .bool false, .slice d0 m0 q0]) (bufK [] 1).T false (bufK [] 1).c (.slice a0 n0 p0) (.slice d0 m0 q0)) := T0'
  clear T0'
  have T1 : Hid (TestAt x1 (.agg #[.slice a1 n1 p1, .bool false, .slice d1 m1 q1]) (bufK [fenI 0] 0).T false (bufK [fenI 0] 0).c (.slice a1 n1 p1) (.slice d1 m1 q1)) := ht
  replace hz := below_more hz hc
  clear ht hc
  go_wp2_with fail
  refine (buffers_any [fenI 1] (by simp) _ 1 x1 (HFF.out.2.1.keep hz)).mono ?_
  rintro e x2 ⟨vt, vc, rfl, ht, hc⟩
  obtain ⟨⟨a2, n2, p2, e1⟩, ⟨d2, m2, q2, e2⟩⟩ := test_form ht
  subst e1 e2
  have T0' := T0.out.keep hc
  clear T0
  have T0 : Hid (TestAt x2 (.agg #[.slice a0 n0 p0, .bool false, .slice d0 m0 q0]) (bufK [] 1).T false (bufK [] 1).c (.slice a0 n0 p0) (.slice d0 m0 q0)) := T0'
  clear T0'
  have T1' := T1.out.keep hc
  clear T1
  have T1 : Hid (TestAt x2 (.agg #[.slice a1 n1 p1, .bool false, .slice d1 m1 q1]) (bufK [fenI 0] 0).T false (bufK [fenI 0] 0).c (.slice a1 n1 p1) (.slice d1 m1 q1)) := T1'
  clear T1'
  have T2 : Hid (TestAt x2 (.agg #[.slice a2 n2 p2, .bool false, .slice d2 m2 q2]) (bufK [fenI 1] 1).T false (bufK [fenI 1] 1).c (.slice a2 n2 p2) (.slice d2 m2 q2)) := ht
  replace hz := below_more hz hc
  clear ht hc
  go_wp2_with fail
  refine (buffers_any [fenI 2] (by simp) _ 1 x2 (HFF.out.2.2.keep hz)).mono ?_
  rintro e x3 ⟨vt, vc, rfl, ht, hc⟩
  obtain ⟨⟨a3, n3, p3, e1⟩, ⟨d3, m3, q3, e2⟩⟩ := test_form ht
  subst e1 e2
  have T0' := T0.out.keep hc
  clear T0
  have T0 : Hid (TestAt x3 (.agg #[.slice a0 n0 p0, .bool false, .slice d0 m0 q0]) (bufK [] 1).T false (bufK [] 1).c (.slice a0 n0 p0) (.slice d0 m0 q0)) := T0'
  clear T0'
  have T1' := T1.out.keep hc
  clear T1
  have T1 : Hid (TestAt x3 (.agg #[.slice a1 n1 p1, .bool false, .slice d1 m1 q1]) (bufK [fenI 0] 0).T false (bufK [fenI 0] 0).c (.slice a1 n1 p1) (.slice d1 m1 q1)) := T1'
  clear T1'
  have T2' := T2.out.keep hc
  clear T2
  have T2 : Hid (TestAt x3 (.agg #[.slice a2 n2 p2, .bool false, .slice d2 m2 q2]) (bufK [fenI 1] 1).T false (bufK [fenI 1] 1).c (.slice a2 n2 p2) (.slice d2 m2 q2)) := T2'
  clear T2'
  have T3 : Hid (TestAt x3 (.agg #[.slice a3 n3 p3, .bool false, .slice d3 m3 q3]) (bufK [fenI 2] 1).T false (bufK [fenI 2] 1).c (.slice a3 n3 p3) (.slice d3 m3 q3)) := ht
  replace hz := below_more hz hc
  clear ht hc
  go_wp2_with fail
  refine (message_any 0 0 1 x3).mono ?_
  rintro e x4 ⟨vt, vc, rfl, ht, hc⟩
  obtain ⟨⟨a4, n4, p4, e1⟩, ⟨d4, m4, q4, e2⟩⟩ := test_form ht
  subst e1 e2
  have T0' := T0.out.keep hc
  clear T0
  have T0 : Hid (TestAt x4 (.agg #[.slice a0 n0 p0, .bool false, .slice d0 m0 q0]) (bufK [] 1).T false (bufK [] 1).c (.slice a0 n0 p0) (.slice d0 m0 q0)) := T0'
  clear T0'
  have T1' := T1.out.keep hc
  clear T1
  have T1 : Hid (TestAt x4 (.agg #[.slice a1 n1 p1, .bool false, .slice d1 m1 q1]) (bufK [fenI 0] 0).T false (bufK [fenI 0] 0).c (.slice a1 n1 p1) (.slice d1 m1 q1)) := T1'
  clear T1'
  have T2' := T2.out.keep hc
  clear T2
  have T2 : Hid (TestAt x4 (.agg #[.slice a2 n2 p2, .bool false, .slice d2 m2 q2]) (bufK [fenI 1] 1).T false (bufK [fenI 1] 1).c (.slice a2 n2 p2) (.slice d2 m2 q2)) := T2'
  clear T2'
  have T3' := T3.out.keep hc
  clear T3
  have T3 : Hid (TestAt x4 (.agg #[.slice a3 n3 p3, .bool false, .slice d3 m3 q3]) (bufK [fenI 2] 1).T false (bufK [fenI 2] 1).c (.slice a3 n3 p3) (.slice d3 m3 q3)) := T3'
  clear T3'
  have T4 : Hid (TestAt x4 (.agg #[.slice a4 n4 p4, .bool false, .slice d4 m4 q4]) (mesK 0 0 1).T false (mesK 0 0 1).c (.slice a4 n4 p4) (.slice d4 m4 q4)) := ht
  replace hz := below_more hz hc
  clear ht hc
  go_wp2_with fail
  refine (message_any 2 0 1 x4).mono ?_
  rintro e x5 ⟨vt, vc, rfl, ht, hc⟩
  obtain ⟨⟨a5, n5, p5, e1⟩, ⟨d5, m5, q5, e2⟩⟩ := test_form ht
  subst e1 e2
  have T0' := T0.out.keep hc
  clear T0
  have T0 : Hid (TestAt x5 (.agg #[.slice a0 n0 p0, .bool false, .slice d0 m0 q0]) (bufK [] 1).T false (bufK [] 1).c (.slice a0 n0 p0) (.slice d0 m0 q0)) := T0'
  clear T0'
  have T1' := T1.out.keep hc
  clear T1
  have T1 : Hid (TestAt x5 (.agg #[.slice a1 n1 p1, .bool false, .slice d1 m1 q1]) (bufK [fenI 0] 0).T false (bufK [fenI 0] 0).c (.slice a1 n1 p1) (.slice d1 m1 q1)) := T1'
  clear T1'
  have T2' := T2.out.keep hc
  clear T2
  have T2 : Hid (TestAt x5 (.agg #[.slice a2 n2 p2, .bool false, .slice d2 m2 q2]) (bufK [fenI 1] 1).T false (bufK [fenI 1] 1).c (.slice a2 n2 p2) (.slice d2 m2 q2)) := T2'
  clear T2'
  have T3' := T3.out.keep hc
  clear T3
  have T3 : Hid (TestAt x5 (.agg #[.slice a3 n3 p3, .bool false, .slice d3 m3 q3]) (bufK [fenI 2] 1).T false (bufK [fenI 2] 1).c (.slice a3 n3 p3) (.slice d3 m3 q3)) := T3'
  clear T3'
  have T4' := T4.out.keep hc
  clear T4
  have T4 : Hid (TestAt x5 (.agg #[.slice a4 n4 p4, .bool false, .slice d4 m4 q4]) (mesK 0 0 1).T false (mesK 0 0 1).c (.slice a4 n4 p4) (.slice d4 m4 q4)) := T4'
  clear T4'
  have T5 : Hid (TestAt x5 (.agg #[.slice a5 n5 p5, .bool false, .slice d5 m5 q5]) (mesK 2 0 1).T false (mesK 2 0 1).c (.slice a5 n5 p5) (.slice d5 m5 q5)) := ht
  replace hz := below_more hz hc
  clear ht hc
  go_wp2_with fail
  refine (message_any 0 1 1 x5).mono ?_
  rintro e x6 ⟨vt, vc, rfl, ht, hc⟩
  obtain ⟨⟨a6, n6, p6, e1⟩, ⟨d6, m6, q6, e2⟩⟩ := test_form ht
  subst e1 e2
  have T0' := T0.out.keep hc
  clear T0
  have T0 : Hid (TestAt x6 (.agg #[.slice a0 n0 p0, .bool false, .slice d0 m0 q0]) (bufK [] 1).T false (bufK [] 1).c (.slice a0 n0 p0) (.slice d0 m0 q0)) := T0'
  clear T0'
  have T1' := T1.out.keep hc
  clear T1
  have T1 : Hid (TestAt x6 (.agg #[.slice a1 n1 p1, .bool false, .slice d1 m1 q1]) (bufK [fenI 0] 0).T false (bufK [fenI 0] 0).c (.slice a1 n1 p1) (.slice d1 m1 q1)) := T1'
  clear T1'
  have T2' := T2.out.keep hc
  clear T2
  have T2 : Hid (TestAt x6 (.agg #[.slice a2 n2 p2, .bool false, .slice d2 m2 q2]) (bufK [fenI 1] 1).T false (bufK [fenI 1] 1).c (.slice a2 n2 p2) (.slice d2 m2 q2)) := T2'
  clear T2'
  have T3' := T3.out.keep hc
  clear T3
  have T3 : Hid (TestAt x6 (.agg #[.slice a3 n3 p3, .bool false, .slice d3 m3 q3]) (bufK [fenI 2] 1).T false (bufK [fenI 2] 1).c (.slice a3 n3 p3) (.slice d3 m3 q3)) := T3'
  clear T3'
  have T4' := T4.out.keep hc
  clear T4
  have T4 : Hid (TestAt x6 (.agg #[.slice a4 n4 p4, .bool false, .slice d4 m4 q4]) (mesK 0 0 1).T false (mesK 0 0 1).c (.slice a4 n4 p4) (.slice d4 m4 q4)) := T4'
  clear T4'
  have T5' := T5.out.keep hc
  clear T5
  have T5 : Hid (TestAt x6 (.agg #[.slice a5 n5 p5, .bool false, .slice d5 m5 q5]) (mesK 2 0 1).T false (mesK 2 0 1).c (.slice a5 n5 p5) (.slice d5 m5 q5)) := T5'
  clear T5'
  have T6 : Hid (TestAt x6 (.agg #[.slice a6 n6 p6, .bool false, .slice d6 m6 q6]) (mesK 0 1 1).T false (mesK 0 1 1).c (.slice a6 n6 p6) (.slice d6 m6 q6)) := ht
  replace hz := below_more hz hc
  clear ht hc
  go_wp2_with fail
  refine (message_any 2 1 0 x6).mono ?_
  rintro e x7 ⟨vt, vc, rfl, ht, hc⟩
  obtain ⟨⟨a7, n7, p7, e1⟩, ⟨d7, m7, q7, e2⟩⟩ := test_form ht
  subst e1 e2
  have T0' := T0.out.keep hc
  clear T0
  have T0 : Hid (TestAt x7 (.agg #[.slice a0 n0 p0, .bool false, .slice d0 m0 q0]) (bufK [] 1).T false (bufK [] 1).c (.slice a0 n0 p0) (.slice d0 m0 q0)) := T0'
  clear T0'
  have T1' := T1.out.keep hc
  clear T1
  have T1 : Hid (TestAt x7 (.agg #[.slice a1 n1 p1, .bool false, .slice d1 m1 q1]) (bufK [fenI 0] 0).T false (bufK [fenI 0] 0).c (.slice a1 n1 p1) (.slice d1 m1 q1)) := T1'
  clear T1'
  have T2' := T2.out.keep hc
  clear T2
  have T2 : Hid (TestAt x7 (.agg #[.slice a2 n2 p2, .bool false, .slice d2 m2 q2]) (bufK [fenI 1] 1).T false (bufK [fenI 1] 1).c (.slice a2 n2 p2) (.slice d2 m2 q2)) := T2'
  clear T2'
  have T3' := T3.out.keep hc
  clear T3
  have T3 : Hid (TestAt x7 (.agg #[.slice a3 n3 p3, .bool false, .slice d3 m3 q3]) (bufK [fenI 2] 1).T false (bufK [fenI 2] 1).c (.slice a3 n3 p3) (.slice d3 m3 q3)) := T3'
  clear T3'
  have T4' := T4.out.keep hc
  clear T4
  have T4 : Hid (TestAt x7 (.agg #[.slice a4 n4 p4, .bool false, .slice d4 m4 q4]) (mesK 0 0 1).T false (mesK 0 0 1).c (.slice a4 n4 p4) (.slice d4 m4 q4)) := T4'
  clear T4'
  have T5' := T5.out.keep hc
  clear T5
  have T5 : Hid (TestAt x7 (.agg #[.slice a5 n5 p5, .bool false, .slice d5 m5 q5]) (mesK 2 0 1).T false (mesK 2 0 1).c (.slice a5 n5 p5) (.slice d5 m5 q5)) := T5'
  clear T5'
  have T6' := T6.out.keep hc
  clear T6
  have T6 : Hid (TestAt x7 (.agg #[.slice a6 n6 p6, .bool false, .slice d6 m6 q6]) (mesK 0 1 1).T false (mesK 0 1 1).c (.slice a6 n6 p6) (.slice d6 m6 q6)) := T6'
  clear T6'
  have T7 : Hid (TestAt x7 (.agg #[.slice a7 n7 p7, .bool false, .slice d7 m7 q7]) (mesK 2 1 0).T false (mesK 2 1 0).c (.slice a7 n7 p7) (.slice d7 m7 q7)) := ht
  replace hz := below_more hz hc
  clear ht hc
  go_wp2_with fail
  refine (early_any 0 1 x7).mono ?_
  rintro e x8 ⟨vt, vc, rfl, ht, hc⟩
  obtain ⟨⟨a8, n8, p8, e1⟩, ⟨d8, m8, q8, e2⟩⟩ := test_form ht
  subst e1 e2
  have T0' := T0.out.keep hc
  clear T0
  have T0 : Hid (TestAt x8 (.agg #[.slice a0 n0 p0, .bool false, .slice d0 m0 q0]) (bufK [] 1).T false (bufK [] 1).c (.slice a0 n0 p0) (.slice d0 m0 q0)) := T0'
  clear T0'
  have T1' := T1.out.keep hc
  clear T1
  have T1 : Hid (TestAt x8 (.agg #[.slice a1 n1 p1, .bool false, .slice d1 m1 q1]) (bufK [fenI 0] 0).T false (bufK [fenI 0] 0).c (.slice a1 n1 p1) (.slice d1 m1 q1)) := T1'
  clear T1'
  have T2' := T2.out.keep hc
  clear T2
  have T2 : Hid (TestAt x8 (.agg #[.slice a2 n2 p2, .bool false, .slice d2 m2 q2]) (bufK [fenI 1] 1).T false (bufK [fenI 1] 1).c (.slice a2 n2 p2) (.slice d2 m2 q2)) := T2'
  clear T2'
  have T3' := T3.out.keep hc
  clear T3
  have T3 : Hid (TestAt x8 (.agg #[.slice a3 n3 p3, .bool false, .slice d3 m3 q3]) (bufK [fenI 2] 1).T false (bufK [fenI 2] 1).c (.slice a3 n3 p3) (.slice d3 m3 q3)) := T3'
  clear T3'
  have T4' := T4.out.keep hc
  clear T4
  have T4 : Hid (TestAt x8 (.agg #[.slice a4 n4 p4, .bool false, .slice d4 m4 q4]) (mesK 0 0 1).T false (mesK 0 0 1).c (.slice a4 n4 p4) (.slice d4 m4 q4)) := T4'
  clear T4'
  have T5' := T5.out.keep hc
  clear T5
  have T5 : Hid (TestAt x8 (.agg #[.slice a5 n5 p5, .bool false, .slice d5 m5 q5]) (mesK 2 0 1).T false (mesK 2 0 1).c (.slice a5 n5 p5) (.slice d5 m5 q5)) := T5'
  clear T5'
  have T6' := T6.out.keep hc
  clear T6
  have T6 : Hid (TestAt x8 (.agg #[.slice a6 n6 p6, .bool false, .slice d6 m6 q6]) (mesK 0 1 1).T false (mesK 0 1 1).c (.slice a6 n6 p6) (.slice d6 m6 q6)) := T6'
  clear T6'
  have T7' := T7.out.keep hc
  clear T7
  have T7 : Hid (TestAt x8 (.agg #[.slice a7 n7 p7, .bool false, .slice d7 m7 q7]) (mesK 2 1 0).T false (mesK 2 1 0).c (.slice a7 n7 p7) (.slice d7 m7 q7)) := T7'
  clear T7'
  have T8 : Hid (TestAt x8 (.agg #[.slice a8 n8 p8, .bool false, .slice d8 m8 q8]) (earK 0 1).T false (earK 0 1).c (.slice a8 n8 p8) (.slice d8 m8 q8)) := ht
  replace hz := below_more hz hc
  clear ht hc
  go_wp2_with fail
  refine (early_any 2 0 x8).mono ?_
  rintro e x9 ⟨vt, vc, rfl, ht, hc⟩
  obtain ⟨⟨a9, n9, p9, e1⟩, ⟨d9, m9, q9, e2⟩⟩ := test_form ht
  subst e1 e2
  have T0' := T0.out.keep hc
  clear T0
  have T0 : Hid (TestAt x9 (.agg #[.slice a0 n0 p0, .bool false, .slice d0 m0 q0]) (bufK [] 1).T false (bufK [] 1).c (.slice a0 n0 p0) (.slice d0 m0 q0)) := T0'
  clear T0'
  have T1' := T1.out.keep hc
  clear T1
  have T1 : Hid (TestAt x9 (.agg #[.slice a1 n1 p1, .bool false, .slice d1 m1 q1]) (bufK [fenI 0] 0).T false (bufK [fenI 0] 0).c (.slice a1 n1 p1) (.slice d1 m1 q1)) := T1'
  clear T1'
  have T2' := T2.out.keep hc
  clear T2
  have T2 : Hid (TestAt x9 (.agg #[.slice a2 n2 p2, .bool false, .slice d2 m2 q2]) (bufK [fenI 1] 1).T false (bufK [fenI 1] 1).c (.slice a2 n2 p2) (.slice d2 m2 q2)) := T2'
  clear T2'
  have T3' := T3.out.keep hc
  clear T3
  have T3 : Hid (TestAt x9 (.agg #[.slice a3 n3 p3, .bool false, .slice d3 m3 q3]) (bufK [fenI 2] 1).T false (bufK [fenI 2] 1).c (.slice a3 n3 p3) (.slice d3 m3 q3)) := T3'
  clear T3'
  have T4' := T4.out.keep hc
  clear T4
  have T4 : Hid (TestAt x9 (.agg #[.slice a4 n4 p4, .bool false, .slice d4 m4 q4]) (mesK 0 0 1).T false (mesK 0 0 1).c (.slice a4 n4 p4) (.slice d4 m4 q4)) := T4'
  clear T4'
  have T5' := T5.out.keep hc
  clear T5
  have T5 : Hid (TestAt x9 (.agg #[.slice a5 n5 p5, .bool false, .slice d5 m5 q5]) (mesK 2 0 1).T false (mesK 2 0 1).c (.slice a5 n5 p5) (.slice d5 m5 q5)) := T5'
  clear T5'
  have T6' := T6.out.keep hc
  clear T6
  have T6 : Hid (TestAt x9 (.agg #[.slice a6 n6 p6, .bool false, .slice d6 m6 q6]) (mesK 0 1 1).T false (mesK 0 1 1).c (.slice a6 n6 p6) (.slice d6 m6 q6)) := T6'
  clear T6'
  have T7' := T7.out.keep hc
  clear T7
  have T7 : Hid (TestAt x9 (.agg #[.slice a7 n7 p7, .bool false, .slice d7 m7 q7]) (mesK 2 1 0).T false (mesK 2 1 0).c (.slice a7 n7 p7) (.slice d7 m7 q7)) := T7'
  clear T7'
  have T8' := T8.out.keep hc
  clear T8
  have T8 : Hid (TestAt x9 (.agg #[.slice a8 n8 p8, .bool false, .slice d8 m8 q8]) (earK 0 1).T false (earK 0 1).c (.slice a8 n8 p8) (.slice d8 m8 q8)) := T8'
  clear T8'
  have T9 : Hid (TestAt x9 (.agg #[.slice a9 n9 p9, .bool false, .slice d9 m9 q9]) (earK 2 0).T false (earK 2 0).c (.slice a9 n9 p9) (.slice d9 m9 q9)) := ht
  replace hz := below_more hz hc
  clear ht hc
  go_wp2_with fail
  refine (apart_any [] (by simp) _ 1 x9 (insAt_nil _)).mono ?_
  rintro e x10 ⟨vt, vc, rfl, ht, hc⟩
  obtain ⟨⟨a10, n10, p10, e1⟩, ⟨d10, m10, q10, e2⟩⟩ := test_form ht
  subst e1 e2
  have T0' := T0.out.keep hc
  clear T0
  have T0 : Hid (TestAt x10 (.agg #[.slice a0 n0 p0, .bool false, .slice d0 m0 q0]) (bufK [] 1).T false (bufK [] 1).c (.slice a0 n0 p0) (.slice d0 m0 q0)) := T0'
  clear T0'
  have T1' := T1.out.keep hc
  clear T1
  have T1 : Hid (TestAt x10 (.agg #[.slice a1 n1 p1, .bool false, .slice d1 m1 q1]) (bufK [fenI 0] 0).T false (bufK [fenI 0] 0).c (.slice a1 n1 p1) (.slice d1 m1 q1)) := T1'
  clear T1'
  have T2' := T2.out.keep hc
  clear T2
  have T2 : Hid (TestAt x10 (.agg #[.slice a2 n2 p2, .bool false, .slice d2 m2 q2]) (bufK [fenI 1] 1).T false (bufK [fenI 1] 1).c (.slice a2 n2 p2) (.slice d2 m2 q2)) := T2'
  clear T2'
  have T3' := T3.out.keep hc
  clear T3
  have T3 : Hid (TestAt x10 (.agg #[.slice a3 n3 p3, .bool false, .slice d3 m3 q3]) (bufK [fenI 2] 1).T false (bufK [fenI 2] 1).c (.slice a3 n3 p3) (.slice d3 m3 q3)) := T3'
  clear T3'
  have T4' := T4.out.keep hc
  clear T4
  have T4 : Hid (TestAt x10 (.agg #[.slice a4 n4 p4, .bool false, .slice d4 m4 q4]) (mesK 0 0 1).T false (mesK 0 0 1).c (.slice a4 n4 p4) (.slice d4 m4 q4)) := T4'
  clear T4'
  have T5' := T5.out.keep hc
  clear T5
  have T5 : Hid (TestAt x10 (.agg #[.slice a5 n5 p5, .bool false, .slice d5 m5 q5]) (mesK 2 0 1).T false (mesK 2 0 1).c (.slice a5 n5 p5) (.slice d5 m5 q5)) := T5'
  clear T5'
  have T6' := T6.out.keep hc
  clear T6
  have T6 : Hid (TestAt x10 (.agg #[.slice a6 n6 p6, .bool false, .slice d6 m6 q6]) (mesK 0 1 1).T false (mesK 0 1 1).c (.slice a6 n6 p6) (.slice d6 m6 q6)) := T6'
  clear T6'
  have T7' := T7.out.keep hc
  clear T7
  have T7 : Hid (TestAt x10 (.agg #[.slice a7 n7 p7, .bool false, .slice d7 m7 q7]) (mesK 2 1 0).T false (mesK 2 1 0).c (.slice a7 n7 p7) (.slice d7 m7 q7)) := T7'
  clear T7'
  have T8' := T8.out.keep hc
  clear T8
  have T8 : Hid (TestAt x10 (.agg #[.slice a8 n8 p8, .bool false, .slice d8 m8 q8]) (earK 0 1).T false (earK 0 1).c (.slice a8 n8 p8) (.slice d8 m8 q8)) := T8'
  clear T8'
  have T9' := T9.out.keep hc
  clear T9
  have T9 : Hid (TestAt x10 (.agg #[.slice a9 n9 p9, .bool false, .slice d9 m9 q9]) (earK 2 0).T false (earK 2 0).c (.slice a9 n9 p9) (.slice d9 m9 q9)) := T9'
  clear T9'
  have T10 : Hid (TestAt x10 (.agg #[.slice a10 n10 p10, .bool false, .slice d10 m10 q10]) (apaK [] 1).T false (apaK [] 1).c (.slice a10 n10 p10) (.slice d10 m10 q10)) := ht
  replace hz := below_more hz hc
  clear ht hc
  go_wp2_with fail
  refine (apart_any [fenI 1] (by simp) _ 0 x10 (HFF.out.2.1.keep hz)).mono ?_
  rintro e x11 ⟨vt, vc, rfl, ht, hc⟩
  obtain ⟨⟨a11, n11, p11, e1⟩, ⟨d11, m11, q11, e2⟩⟩ := test_form ht
  subst e1 e2
  have T0' := T0.out.keep hc
  clear T0
  have T0 : Hid (TestAt x11 (.agg #[.slice a0 n0 p0, .bool false, .slice d0 m0 q0]) (bufK [] 1).T false (bufK [] 1).c (.slice a0 n0 p0) (.slice d0 m0 q0)) := T0'
  clear T0'
  have T1' := T1.out.keep hc
  clear T1
  have T1 : Hid (TestAt x11 (.agg #[.slice a1 n1 p1, .bool false, .slice d1 m1 q1]) (bufK [fenI 0] 0).T false (bufK [fenI 0] 0).c (.slice a1 n1 p1) (.slice d1 m1 q1)) := T1'
  clear T1'
  have T2' := T2.out.keep hc
  clear T2
  have T2 : Hid (TestAt x11 (.agg #[.slice a2 n2 p2, .bool false, .slice d2 m2 q2]) (bufK [fenI 1] 1).T false (bufK [fenI 1] 1).c (.slice a2 n2 p2) (.slice d2 m2 q2)) := T2'
  clear T2'
  have T3' := T3.out.keep hc
  clear T3
  have T3 : Hid (TestAt x11 (.agg #[.slice a3 n3 p3, .bool false, .slice d3 m3 q3]) (bufK [fenI 2] 1).T false (bufK [fenI 2] 1).c (.slice a3 n3 p3) (.slice d3 m3 q3)) := T3'
  clear T3'
  have T4' := T4.out.keep hc
  clear T4
  have T4 : Hid (TestAt x11 (.agg #[.slice a4 n4 p4, .bool false, .slice d4 m4 q4]) (mesK 0 0 1).T false (mesK 0 0 1).c (.slice a4 n4 p4) (.slice d4 m4 q4)) := T4'
  clear T4'
  have T5' := T5.out.keep hc
  clear T5
  have T5 : Hid (TestAt x11 (.agg #[.slice a5 n5 p5, .bool false, .slice d5 m5 q5]) (mesK 2 0 1).T false (mesK 2 0 1).c (.slice a5 n5 p5) (.slice d5 m5 q5)) := T5'
  clear T5'
  have T6' := T6.out.keep hc
  clear T6
  have T6 : Hid (TestAt x11 (.agg #[.slice a6 n6 p6, .bool false, .slice d6 m6 q6]) (mesK 0 1 1).T false (mesK 0 1 1).c (.slice a6 n6 p6) (.slice d6 m6 q6)) := T6'
  clear T6'
  have T7' := T7.out.keep hc
  clear T7
  have T7 : Hid (TestAt x11 (.agg #[.slice a7 n7 p7, .bool false, .slice d7 m7 q7]) (mesK 2 1 0).T false (mesK 2 1 0).c (.slice a7 n7 p7) (.slice d7 m7 q7)) := T7'
  clear T7'
  have T8' := T8.out.keep hc
  clear T8
  have T8 : Hid (TestAt x11 (.agg #[.slice a8 n8 p8, .bool false, .slice d8 m8 q8]) (earK 0 1).T false (earK 0 1).c (.slice a8 n8 p8) (.slice d8 m8 q8)) := T8'
  clear T8'
  have T9' := T9.out.keep hc
  clear T9
  have T9 : Hid (TestAt x11 (.agg #[.slice a9 n9 p9, .bool false, .slice d9 m9 q9]) (earK 2 0).T false (earK 2 0).c (.slice a9 n9 p9) (.slice d9 m9 q9)) := T9'
  clear T9'
  have T10' := T10.out.keep hc
  clear T10
  have T10 : Hid (TestAt x11 (.agg #[.slice a10 n10 p10, .bool false, .slice d10 m10 q10]) (apaK [] 1).T false (apaK [] 1).c (.slice a10 n10 p10) (.slice d10 m10 q10)) := T10'
  clear T10'
  have T11 : Hid (TestAt x11 (.agg #[.slice a11 n11 p11, .bool false, .slice d11 m11 q11]) (apaK [fenI 1] 0).T false (apaK [fenI 1] 0).c (.slice a11 n11 p11) (.slice d11 m11 q11)) := ht
  replace hz := below_more hz hc
  clear ht hc
  go_wp2_with fail
  refine (apart_any [fenI 0] (by simp) _ 0 x11 (HFF.out.1.keep hz)).mono ?_
  rintro e x12 ⟨vt, vc, rfl, ht, hc⟩
  obtain ⟨⟨a12, n12, p12, e1⟩, ⟨d12, m12, q12, e2⟩⟩ := test_form ht
  subst e1 e2
  have T0' := T0.out.keep hc
  clear T0
  have T0 : Hid (TestAt x12 (.agg #[.slice a0 n0 p0, .bool false, .slice d0 m0 q0]) (bufK [] 1).T false (bufK [] 1).c (.slice a0 n0 p0) (.slice d0 m0 q0)) := T0'
  clear T0'
  have T1' := T1.out.keep hc
  clear T1
  have T1 : Hid (TestAt x12 (.agg #[.slice a1 n1 p1, .bool false, .slice d1 m1 q1]) (bufK [fenI 0] 0).T false (bufK [fenI 0] 0).c (.slice a1 n1 p1) (.slice d1 m1 q1)) := T1'
  clear T1'
  have T2' := T2.out.keep hc
  clear T2
  have T2 : Hid (TestAt x12 (.agg #[.slice a2 n2 p2, .bool false, .slice d2 m2 q2]) (bufK [fenI 1] 1).T false (bufK [fenI 1] 1).c (.slice a2 n2 p2) (.slice d2 m2 q2)) := T2'
  clear T2'
  have T3' := T3.out.keep hc
  clear T3
  have T3 : Hid (TestAt x12 (.agg #[.slice a3 n3 p3, .bool false, .slice d3 m3 q3]) (bufK [fenI 2] 1).T false (bufK [fenI 2] 1).c (.slice a3 n3 p3) (.slice d3 m3 q3)) := T3'
  clear T3'
  have T4' := T4.out.keep hc
  clear T4
  have T4 : Hid (TestAt x12 (.agg #[.slice a4 n4 p4, .bool false, .slice d4 m4 q4]) (mesK 0 0 1).T false (mesK 0 0 1).c (.slice a4 n4 p4) (.slice d4 m4 q4)) := T4'
  clear T4'
  have T5' := T5.out.keep hc
  clear T5
  have T5 : Hid (TestAt x12 (.agg #[.slice a5 n5 p5, .bool false, .slice d5 m5 q5]) (mesK 2 0 1).T false (mesK 2 0 1).c (.slice a5 n5 p5) (.slice d5 m5 q5)) := T5'
  clear T5'
  have T6' := T6.out.keep hc
  clear T6
  have T6 : Hid (TestAt x12 (.agg #[.slice a6 n6 p6, .bool false, .slice d6 m6 q6]) (mesK 0 1 1).T false (mesK 0 1 1).c (.slice a6 n6 p6) (.slice d6 m6 q6)) := T6'
  clear T6'
  have T7' := T7.out.keep hc
  clear T7
  have T7 : Hid (TestAt x12 (.agg #[.slice a7 n7 p7, .bool false, .slice d7 m7 q7]) (mesK 2 1 0).T false (mesK 2 1 0).c (.slice a7 n7 p7) (.slice d7 m7 q7)) := T7'
  clear T7'
  have T8' := T8.out.keep hc
  clear T8
  have T8 : Hid (TestAt x12 (.agg #[.slice a8 n8 p8, .bool false, .slice d8 m8 q8]) (earK 0 1).T false (earK 0 1).c (.slice a8 n8 p8) (.slice d8 m8 q8)) := T8'
  clear T8'
  have T9' := T9.out.keep hc
  clear T9
  have T9 : Hid (TestAt x12 (.agg #[.slice a9 n9 p9, .bool false, .slice d9 m9 q9]) (earK 2 0).T false (earK 2 0).c (.slice a9 n9 p9) (.slice d9 m9 q9)) := T9'
  clear T9'
  have T10' := T10.out.keep hc
  clear T10
  have T10 : Hid (TestAt x12 (.agg #[.slice a10 n10 p10, .bool false, .slice d10 m10 q10]) (apaK [] 1).T false (apaK [] 1).c (.slice a10 n10 p10) (.slice d10 m10 q10)) := T10'
  clear T10'
  have T11' := T11.out.keep hc
  clear T11
  have T11 : Hid (TestAt x12 (.agg #[.slice a11 n11 p11, .bool false, .slice d11 m11 q11]) (apaK [fenI 1] 0).T false (apaK [fenI 1] 0).c (.slice a11 n11 p11) (.slice d11 m11 q11)) := T11'
  clear T11'
  have T12 : Hid (TestAt x12 (.agg #[.slice a12 n12 p12, .bool false, .slice d12 m12 q12]) (apaK [fenI 0] 0).T false (apaK [fenI 0] 0).c (.slice a12 n12 p12) (.slice d12 m12 q12)) := ht
  replace hz := below_more hz hc
  clear ht hc
  go_wp2_with fail
  refine (apart_any [fenI 2] (by simp) _ 1 x12 (HFF.out.2.2.keep hz)).mono ?_
  rintro e x13 ⟨vt, vc, rfl, ht, hc⟩
  obtain ⟨⟨a13, n13, p13, e1⟩, ⟨d13, m13, q13, e2⟩⟩ := test_form ht
  subst e1 e2
  have T0' := T0.out.keep hc
  clear T0
  have T0 : Hid (TestAt x13 (.agg #[.slice a0 n0 p0, .bool false, .slice d0 m0 q0]) (bufK [] 1).T false (bufK [] 1).c (.slice a0 n0 p0) (.slice d0 m0 q0)) := T0'
  clear T0'
  have T1' := T1.out.keep hc
  clear T1
  have T1 : Hid (TestAt x13 (.agg #[.slice a1 n1 p1, .bool false, .slice d1 m1 q1]) (bufK [fenI 0] 0).T false (bufK [fenI 0] 0).c (.slice a1 n1 p1) (.slice d1 m1 q1)) := T1'
  clear T1'
  have T2' := T2.out.keep hc
  clear T2
  have T2 : Hid (TestAt x13 (.agg #[.slice a2 n2 p2, .bool false, .slice d2 m2 q2]) (bufK [fenI 1] 1).T false (bufK [fenI 1] 1).c (.slice a2 n2 p2) (.slice d2 m2 q2)) := T2'
  clear T2'
  have T3' := T3.out.keep hc
  clear T3
  have T3 : Hid (TestAt x13 (.agg #[.slice a3 n3 p3, .bool false, .slice d3 m3 q3]) (bufK [fenI 2] 1).T false (bufK [fenI 2] 1).c (.slice a3 n3 p3) (.slice d3 m3 q3)) := T3'
  clear T3'
  have T4' := T4.out.keep hc
  clear T4
  have T4 : Hid (TestAt x13 (.agg #[.slice a4 n4 p4, .bool false, .slice d4 m4 q4]) (mesK 0 0 1).T false (mesK 0 0 1).c (.slice a4 n4 p4) (.slice d4 m4 q4)) := T4'
  clear T4'
  have T5' := T5.out.keep hc
  clear T5
  have T5 : Hid (TestAt x13 (.agg #[.slice a5 n5 p5, .bool false, .slice d5 m5 q5]) (mesK 2 0 1).T false (mesK 2 0 1).c (.slice a5 n5 p5) (.slice d5 m5 q5)) := T5'
  clear T5'
  have T6' := T6.out.keep hc
  clear T6
  have T6 : Hid (TestAt x13 (.agg #[.slice a6 n6 p6, .bool false, .slice d6 m6 q6]) (mesK 0 1 1).T false (mesK 0 1 1).c (.slice a6 n6 p6) (.slice d6 m6 q6)) := T6'
  clear T6'
  have T7' := T7.out.keep hc
  clear T7
  have T7 : Hid (TestAt x13 (.agg #[.slice a7 n7 p7, .bool false, .slice d7 m7 q7]) (mesK 2 1 0).T false (mesK 2 1 0).c (.slice a7 n7 p7) (.slice d7 m7 q7)) := T7'
  clear T7'
  have T8' := T8.out.keep hc
  clear T8
  have T8 : Hid (TestAt x13 (.agg #[.slice a8 n8 p8, .bool false, .slice d8 m8 q8]) (earK 0 1).T false (earK 0 1).c (.slice a8 n8 p8) (.slice d8 m8 q8)) := T8'
  clear T8'
  have T9' := T9.out.keep hc
  clear T9
  have T9 : Hid (TestAt x13 (.agg #[.slice a9 n9 p9, .bool false, .slice d9 m9 q9]) (earK 2 0).T false (earK 2 0).c (.slice a9 n9 p9) (.slice d9 m9 q9)) := T9'
  clear T9'
  have T10' := T10.out.keep hc
  clear T10
  have T10 : Hid (TestAt x13 (.agg #[.slice a10 n10 p10, .bool false, .slice d10 m10 q10]) (apaK [] 1).T false (apaK [] 1).c (.slice a10 n10 p10) (.slice d10 m10 q10)) := T10'
  clear T10'
  have T11' := T11.out.keep hc
  clear T11
  have T11 : Hid (TestAt x13 (.agg #[.slice a11 n11 p11, .bool false, .slice d11 m11 q11]) (apaK [fenI 1] 0).T false (apaK [fenI 1] 0).c (.slice a11 n11 p11) (.slice d11 m11 q11)) := T11'
  clear T11'
  have T12' := T12.out.keep hc
  clear T12
  have T12 : Hid (TestAt x13 (.agg #[.slice a12 n12 p12, .bool false, .slice d12 m12 q12]) (apaK [fenI 0] 0).T false (apaK [fenI 0] 0).c (.slice a12 n12 p12) (.slice d12 m12 q12)) := T12'
  clear T12'
  have T13 : Hid (TestAt x13 (.agg #[.slice a13 n13 p13, .bool false, .slice d13 m13 q13]) (apaK [fenI 2] 1).T false (apaK [fenI 2] 1).c (.slice a13 n13 p13) (.slice d13 m13 q13)) := ht
  replace hz := below_more hz hc
  clear ht hc
  go_wp2_with fail
  refine (twice_any x13).mono ?_
  rintro e x14 ⟨vt, vc, rfl, ht, hc⟩
  obtain ⟨⟨a14, n14, p14, e1⟩, ⟨d14, m14, q14, e2⟩⟩ := test_form ht
  subst e1 e2
  have T0' := T0.out.keep hc
  clear T0
  have T0 : Hid (TestAt x14 (.agg #[.slice a0 n0 p0, .bool false, .slice d0 m0 q0]) (bufK [] 1).T false (bufK [] 1).c (.slice a0 n0 p0) (.slice d0 m0 q0)) := T0'
  clear T0'
  have T1' := T1.out.keep hc
  clear T1
  have T1 : Hid (TestAt x14 (.agg #[.slice a1 n1 p1, .bool false, .slice d1 m1 q1]) (bufK [fenI 0] 0).T false (bufK [fenI 0] 0).c (.slice a1 n1 p1) (.slice d1 m1 q1)) := T1'
  clear T1'
  have T2' := T2.out.keep hc
  clear T2
  have T2 : Hid (TestAt x14 (.agg #[.slice a2 n2 p2, .bool false, .slice d2 m2 q2]) (bufK [fenI 1] 1).T false (bufK [fenI 1] 1).c (.slice a2 n2 p2) (.slice d2 m2 q2)) := T2'
  clear T2'
  have T3' := T3.out.keep hc
  clear T3
  have T3 : Hid (TestAt x14 (.agg #[.slice a3 n3 p3, .bool false, .slice d3 m3 q3]) (bufK [fenI 2] 1).T false (bufK [fenI 2] 1).c (.slice a3 n3 p3) (.slice d3 m3 q3)) := T3'
  clear T3'
  have T4' := T4.out.keep hc
  clear T4
  have T4 : Hid (TestAt x14 (.agg #[.slice a4 n4 p4, .bool false, .slice d4 m4 q4]) (mesK 0 0 1).T false (mesK 0 0 1).c (.slice a4 n4 p4) (.slice d4 m4 q4)) := T4'
  clear T4'
  have T5' := T5.out.keep hc
  clear T5
  have T5 : Hid (TestAt x14 (.agg #[.slice a5 n5 p5, .bool false, .slice d5 m5 q5]) (mesK 2 0 1).T false (mesK 2 0 1).c (.slice a5 n5 p5) (.slice d5 m5 q5)) := T5'
  clear T5'
  have T6' := T6.out.keep hc
  clear T6
  have T6 : Hid (TestAt x14 (.agg #[.slice a6 n6 p6, .bool false, .slice d6 m6 q6]) (mesK 0 1 1).T false (mesK 0 1 1).c (.slice a6 n6 p6) (.slice d6 m6 q6)) := T6'
  clear T6'
  have T7' := T7.out.keep hc
  clear T7
  have T7 : Hid (TestAt x14 (.agg #[.slice a7 n7 p7, .bool false, .slice d7 m7 q7]) (mesK 2 1 0).T false (mesK 2 1 0).c (.slice a7 n7 p7) (.slice d7 m7 q7)) := T7'
  clear T7'
  have T8' := T8.out.keep hc
  clear T8
  have T8 : Hid (TestAt x14 (.agg #[.slice a8 n8 p8, .bool false, .slice d8 m8 q8]) (earK 0 1).T false (earK 0 1).c (.slice a8 n8 p8) (.slice d8 m8 q8)) := T8'
  clear T8'
  have T9' := T9.out.keep hc
  clear T9
  have T9 : Hid (TestAt x14 (.agg #[.slice a9 n9 p9, .bool false, .slice d9 m9 q9]) (earK 2 0).T false (earK 2 0).c (.slice a9 n9 p9) (.slice d9 m9 q9)) := T9'
  clear T9'
  have T10' := T10.out.keep hc
  clear T10
  have T10 : Hid (TestAt x14 (.agg #[.slice a10 n10 p10, .bool false, .slice d10 m10 q10]) (apaK [] 1).T false (apaK [] 1).c (.slice a10 n10 p10) (.slice d10 m10 q10)) := T10'
  clear T10'
  have T11' := T11.out.keep hc
  clear T11
  have T11 : Hid (TestAt x14 (.agg #[.slice a11 n11 p11, .bool false, .slice d11 m11 q11]) (apaK [fenI 1] 0).T false (apaK [fenI 1] 0).c (.slice a11 n11 p11) (.slice d11 m11 q11)) := T11'
  clear T11'
  have T12' := T12.out.keep hc
  clear T12
  have T12 : Hid (TestAt x14 (.agg #[.slice a12 n12 p12, .bool false, .slice d12 m12 q12]) (apaK [fenI 0] 0).T false (apaK [fenI 0] 0).c (.slice a12 n12 p12) (.slice d12 m12 q12)) := T12'
  clear T12'
  have T13' := T13.out.keep hc
  clear T13
  have T13 : Hid (TestAt x14 (.agg #[.slice a13 n13 p13, .bool false, .slice d13 m13 q13]) (apaK [fenI 2] 1).T false (apaK [fenI 2] 1).c (.slice a13 n13 p13) (.slice d13 m13 q13)) := T13'
  clear T13'
  have T14 : Hid (TestAt x14 (.agg #[.slice a14 n14 p14, .bool false, .slice d14 m14 q14]) (twiK).T false (twiK).c (.slice a14 n14 p14) (.slice d14 m14 q14)) := ht
  replace hz := below_more hz hc
  clear ht hc
  go_wp2_with fail
  refine (taken_any x14).mono ?_
  rintro e x15 ⟨vt, vc, rfl, ht, hc⟩
  obtain ⟨⟨a15, n15, p15, e1⟩, ⟨d15, m15, q15, e2⟩⟩ := test_form ht
  subst e1 e2
  have T0' := T0.out.keep hc
  clear T0
  have T0 : Hid (TestAt x15 (.agg #[.slice a0 n0 p0, .bool false, .slice d0 m0 q0]) (bufK [] 1).T false (bufK [] 1).c (.slice a0 n0 p0) (.slice d0 m0 q0)) := T0'
  clear T0'
  have T1' := T1.out.keep hc
  clear T1
  have T1 : Hid (TestAt x15 (.agg #[.slice a1 n1 p1, .bool false, .slice d1 m1 q1]) (bufK [fenI 0] 0).T false (bufK [fenI 0] 0).c (.slice a1 n1 p1) (.slice d1 m1 q1)) := T1'
  clear T1'
  have T2' := T2.out.keep hc
  clear T2
  have T2 : Hid (TestAt x15 (.agg #[.slice a2 n2 p2, .bool false, .slice d2 m2 q2]) (bufK [fenI 1] 1).T false (bufK [fenI 1] 1).c (.slice a2 n2 p2) (.slice d2 m2 q2)) := T2'
  clear T2'
  have T3' := T3.out.keep hc
  clear T3
  have T3 : Hid (TestAt x15 (.agg #[.slice a3 n3 p3, .bool false, .slice d3 m3 q3]) (bufK [fenI 2] 1).T false (bufK [fenI 2] 1).c (.slice a3 n3 p3) (.slice d3 m3 q3)) := T3'
  clear T3'
  have T4' := T4.out.keep hc
  clear T4
  have T4 : Hid (TestAt x15 (.agg #[.slice a4 n4 p4, .bool false, .slice d4 m4 q4]) (mesK 0 0 1).T false (mesK 0 0 1).c (.slice a4 n4 p4) (.slice d4 m4 q4)) := T4'
  clear T4'
  have T5' := T5.out.keep hc
  clear T5
  have T5 : Hid (TestAt x15 (.agg #[.slice a5 n5 p5, .bool false, .slice d5 m5 q5]) (mesK 2 0 1).T false (mesK 2 0 1).c (.slice a5 n5 p5) (.slice d5 m5 q5)) := T5'
  clear T5'
  have T6' := T6.out.keep hc
  clear T6
  have T6 : Hid (TestAt x15 (.agg #[.slice a6 n6 p6, .bool false, .slice d6 m6 q6]) (mesK 0 1 1).T false (mesK 0 1 1).c (.slice a6 n6 p6) (.slice d6 m6 q6)) := T6'
  clear T6'
  have T7' := T7.out.keep hc
  clear T7
  have T7 : Hid (TestAt x15 (.agg #[.slice a7 n7 p7, .bool false, .slice d7 m7 q7]) (mesK 2 1 0).T false (mesK 2 1 0).c (.slice a7 n7 p7) (.slice d7 m7 q7)) := T7'
  clear T7'
  have T8' := T8.out.keep hc
  clear T8
  have T8 : Hid (TestAt x15 (.agg #[.slice a8 n8 p8, .bool false, .slice d8 m8 q8]) (earK 0 1).T false (earK 0 1).c (.slice a8 n8 p8) (.slice d8 m8 q8)) := T8'
  clear T8'
  have T9' := T9.out.keep hc
  clear T9
  have T9 : Hid (TestAt x15 (.agg #[.slice a9 n9 p9, .bool false, .slice d9 m9 q9]) (earK 2 0).T false (earK 2 0).c (.slice a9 n9 p9) (.slice d9 m9 q9)) := T9'
  clear T9'
  have T10' := T10.out.keep hc
  clear T10
  have T10 : Hid (TestAt x15 (.agg #[.slice a10 n10 p10, .bool false, .slice d10 m10 q10]) (apaK [] 1).T false (apaK [] 1).c (.slice a10 n10 p10) (.slice d10 m10 q10)) := T10'
  clear T10'
  have T11' := T11.out.keep hc
  clear T11
  have T11 : Hid (TestAt x15 (.agg #[.slice a11 n11 p11, .bool false, .slice d11 m11 q11]) (apaK [fenI 1] 0).T false (apaK [fenI 1] 0).c (.slice a11 n11 p11) (.slice d11 m11 q11)) := T11'
  clear T11'
  have T12' := T12.out.keep hc
  clear T12
  have T12 : Hid (TestAt x15 (.agg #[.slice a12 n12 p12, .bool false, .slice d12 m12 q12]) (apaK [fenI 0] 0).T false (apaK [fenI 0] 0).c (.slice a12 n12 p12) (.slice d12 m12 q12)) := T12'
  clear T12'
  have T13' := T13.out.keep hc
  clear T13
  have T13 : Hid (TestAt x15 (.agg #[.slice a13 n13 p13, .bool false, .slice d13 m13 q13]) (apaK [fenI 2] 1).T false (apaK [fenI 2] 1).c (.slice a13 n13 p13) (.slice d13 m13 q13)) := T13'
  clear T13'
  have T14' := T14.out.keep hc
  clear T14
  have T14 : Hid (TestAt x15 (.agg #[.slice a14 n14 p14, .bool false, .slice d14 m14 q14]) (twiK).T false (twiK).c (.slice a14 n14 p14) (.slice d14 m14 q14)) := T14'
  clear T14'
  have T15 : Hid (TestAt x15 (.agg #[.slice a15 n15 p15, .bool false, .slice d15 m15 q15]) (takK).T false (takK).c (.slice a15 n15 p15) (.slice d15 m15 q15)) := ht
  replace hz := below_more hz hc
  clear ht hc
  have HL := kn_lit (w := x15) (t := 56) [((.slice a0 n0 p0, .slice d0 m0 q0), bufK [] 1), ((.slice a1 n1 p1, .slice d1 m1 q1), bufK [fenI 0] 0), ((.slice a2 n2 p2, .slice d2 m2 q2), bufK [fenI 1] 1), ((.slice a3 n3 p3, .slice d3 m3 q3), bufK [fenI 2] 1), ((.slice a4 n4 p4, .slice d4 m4 q4), mesK 0 0 1), ((.slice a5 n5 p5, .slice d5 m5 q5), mesK 2 0 1), ((.slice a6 n6 p6, .slice d6 m6 q6), mesK 0 1 1), ((.slice a7 n7 p7, .slice d7 m7 q7), mesK 2 1 0), ((.slice a8 n8 p8, .slice d8 m8 q8), earK 0 1), ((.slice a9 n9 p9, .slice d9 m9 q9), earK 2 0), ((.slice a10 n10 p10, .slice d10 m10 q10), apaK [] 1), ((.slice a11 n11 p11, .slice d11 m11 q11), apaK [fenI 1] 0), ((.slice a12 n12 p12, .slice d12 m12 q12), apaK [fenI 0] 0), ((.slice a13 n13 p13, .slice d13 m13 q13), apaK [fenI 2] 1), ((.slice a14 n14 p14, .slice d14 m14 q14), twiK), ((.slice a15 n15 p15, .slice d15 m15 q15), takK)] (by
    intro q hq
    simp only [List.mem_cons, List.not_mem_nil, or_false] at hq
    rcases hq with rfl | rfl | rfl | rfl | rfl | rfl | rfl | rfl | rfl | rfl | rfl | rfl | rfl | rfl | rfl | rfl
    · exact T0.out
    · exact T1.out
    · exact T2.out
    · exact T3.out
    · exact T4.out
    · exact T5.out
    · exact T6.out
    · exact T7.out
    · exact T8.out
    · exact T9.out
    · exact T10.out
    · exact T11.out
    · exact T12.out
    · exact T13.out
    · exact T14.out
    · exact T15.out)
  have HL2 : Hid (∀ (k : Nat) (x : Knw), tabK[k]? = some x → KnC _ _ (k * 5) x) := HL
  have hbf := below_more (below_more hb hz) (below_alloc x15 (.cells ([((.slice a0 n0 p0, .slice d0 m0 q0), bufK [] 1), ((.slice a1 n1 p1, .slice d1 m1 q1), bufK [fenI 0] 0), ((.slice a2 n2 p2, .slice d2 m2 q2), bufK [fenI 1] 1), ((.slice a3 n3 p3, .slice d3 m3 q3), bufK [fenI 2] 1), ((.slice a4 n4 p4, .slice d4 m4 q4), mesK 0 0 1), ((.slice a5 n5 p5, .slice d5 m5 q5), mesK 2 0 1), ((.slice a6 n6 p6, .slice d6 m6 q6), mesK 0 1 1), ((.slice a7 n7 p7, .slice d7 m7 q7), mesK 2 1 0), ((.slice a8 n8 p8, .slice d8 m8 q8), earK 0 1), ((.slice a9 n9 p9, .slice d9 m9 q9), earK 2 0), ((.slice a10 n10 p10, .slice d10 m10 q10), apaK [] 1), ((.slice a11 n11 p11, .slice d11 m11 q11), apaK [fenI 1] 0), ((.slice a12 n12 p12, .slice d12 m12 q12), apaK [fenI 0] 0), ((.slice a13 n13 p13, .slice d13 m13 q13), apaK [fenI 2] 1), ((.slice a14 n14 p14, .slice d14 m14 q14), twiK), ((.slice a15 n15 p15, .slice d15 m15 q15), takK)].flatMap knV).toArray 56))
  clear HL T0 T1 T2 T3 T4 T5 T6 T7 T8 T9 T10 T11 T12 T13 T14 T15 HFF
  go_wp2_with fail
  go_ret
  exact ⟨_, rfl, HL2.out, hbf⟩

set_option maxRecDepth 20000 in
theorem pick_any (c : Int) (hc : -9223372036854775808 ≤ c ∧ c < 9223372036854775808) (m : Nat) (hm : 1 ≤ m ∧ m ≤ 1000) (w : World) : Calls Try.prog 12 #[.int .i64 c, .int .i64 m] w fun e w' => ∃ r : Nat, r < m ∧ e = .returned (.int .i64 r) ∧ Below w.heap.size w w' := by
  by_cases h0 : c < 0
  · obtain ⟨d, hd⟩ := Int.eq_ofNat_of_zero_le (show 0 ≤ -(c + 1) by omega)
    have e0 : decide (c < 0) = true := by simpa using h0
    have e1 : IntKind.i64.wrap (c + 1) = c + 1 := by rw [IntKind.wrap_i64]; omega
    have e2 : IntKind.i64.wrap (-(c + 1)) = (d : Int) := by rw [IntKind.wrap_i64, hd]; omega
    have er : (d : Int) % (m : Int) = ((d % m : Nat) : Int) := by simp
    have hr : d % m < m := Nat.mod_lt _ (by omega)
    have hm0 : ((m : Int) == 0) = false := by simp; omega
    generalize d % m = r at er hr
    clear hd
    go_enter Try.func12, Try.ntmps12
    go_wp2_with fail
    go_ret
    exact ⟨r, hr, ret_int er, Below.refl _ _⟩
  · obtain ⟨d, rfl⟩ := Int.eq_ofNat_of_zero_le (show 0 ≤ c by omega)
    have er : (d : Int) % (m : Int) = ((d % m : Nat) : Int) := by simp
    have hr : d % m < m := Nat.mod_lt _ (by omega)
    have hm0 : ((m : Int) == 0) = false := by simp; omega
    generalize d % m = r at er hr
    go_enter Try.func12, Try.ntmps12
    go_wp2_with fail
    go_ret
    exact ⟨r, hr, rfl, Below.refl _ _⟩

end Go.Proofs.Ytomijmikkbhgmab
