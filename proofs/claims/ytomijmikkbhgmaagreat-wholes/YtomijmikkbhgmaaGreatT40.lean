import Derived.Test.YtomijmikkbhgmaaGreatT39
import Derived.Test.YtomijmikkbhgmaaGreatT36
import Derived.Deep.RegionLaw
namespace Go.Proofs.YtomijmikkbhgmaaGreat
open Go.RowKit

structure MtC (w : World) (b off : Nat) (m : Mt) : Prop where
  c0 : w.cell? ⟨b, off, none⟩ = some (.int .i64 m.b)
  c1 : w.cell? ⟨b, off + 1, none⟩ = some (.int .i64 m.e)
  c2 : w.cell? ⟨b, off + 2, none⟩ = some (.int .i64 m.s)
  c3 : w.cell? ⟨b, off + 3, none⟩ = some (.int .i64 m.f)
theorem mtC_keeps : Keeps MtC := fun _ _ _ _ _ hb h => ⟨keep_cell hb h.c0, keep_cell hb h.c1, keep_cell hb h.c2, keep_cell hb h.c3⟩
def MtAt (w : World) (v : Value) (l : List Mt) : Prop := ∃ ao b off cap, SlAt w 4 MtC v l ao b off cap ∧ l.length ≤ cap
theorem MtAt.keep {w w' : World} {v : Value} {l : List Mt} (h : MtAt w v l) (hb : Below w.heap.size w w') : MtAt w' v l := by
  obtain ⟨ao, b, off, cap, h, hc⟩ := h
  exact ⟨ao, b, off, cap, h.keep mtC_keeps hb, hc⟩

set_option maxRecDepth 20000 in
set_option maxHeartbeats 1000000 in
theorem parted_any (n : Nat) (hn : n ≤ 96) (ms : List Mt) (hms : ms.length ≤ 6) (hne : ms ≠ [] → 0 < n) (A : List (Int × Int)) (bl : Nat) (v : Value) (w : World) (hm : MatAt w bl n A) (hv : MtAt w v ms) :
    Calls Tryz.prog 106 #[.agg #[.int .i64 n, .slice (some ⟨bl, 0, none⟩) (n * n) (n * n)], v] w fun e w' => ∃ b : Bool, e = .returned (.bool b) ∧ (b = true ↔ Parts n ms A) ∧ Below w.heap.size w w' := by
  induction ms generalizing A bl v w with
  | nil =>
    obtain ⟨ao, b, off, cap, ⟨rfl, _, _, _⟩, _⟩ := hv
    have hba := below_alloc w (.cells #[.int .i64 n, .slice (some ⟨bl, 0, none⟩) (n * n) (n * n)] 141)
    have HST : Hid (SetAt (w.alloc (.cells #[.int .i64 n, .slice (some ⟨bl, 0, none⟩) (n * n) (n * n)] 141)) w.heap.size bl n A) := ⟨by simp, by simp, hm.keep hba, by have := hm.lt; omega⟩
    clear hm
    go_enter Tryz.func106, Tryz.ntmps106
    go_wp2_with fail
    refine (hasCircle_any n hn A _ bl _ HST.out).mono ?_
    rintro e w2 ⟨bb, rfl, hbb, hb2⟩
    have HB : Hid (bb = true ↔ Cyc n A) := hbb
    clear hbb
    cases bb
    · go_wp2_with fail
      go_ret
      exact ⟨true, rfl, ⟨fun _ => (fun h => (by have := HB.out.2 h; cases this)), fun _ => rfl⟩, below_more hba hb2⟩
    · go_wp2_with fail
      go_ret
      exact ⟨false, rfl, ⟨fun h => (by cases h), fun h => absurd (HB.out.1 trivial) h⟩, below_more hba hb2⟩
  | cons m ms ih =>
    have h0n : 0 < n := hne (by simp)
    obtain ⟨ao, b, off, cap, ⟨hvv, ha, hnn, hc⟩, hcap⟩ := hv
    subst hvv
    have hao := ha (by simp)
    subst hao
    have hC0 := hc 0 m rfl
    rw [Nat.zero_mul, Nat.add_zero] at hC0
    have HC0 : Hid (MtC w b off m) := hC0
    have HC : Hid (∀ k x, (m :: ms)[k]? = some x → MtC w b (off + k * 4) x) := hc
    have hba := below_alloc w (.cells #[.int .i64 n, .slice (some ⟨bl, 0, none⟩) (n * n) (n * n)] 141)
    have HST : Hid (SetAt (w.alloc (.cells #[.int .i64 n, .slice (some ⟨bl, 0, none⟩) (n * n) (n * n)] 141)) w.heap.size bl n A) := ⟨by simp, by simp, hm.keep hba, by have := hm.lt; omega⟩
    clear hm hC0 hc
    have hl0 : (((m :: ms).length : Int) == 0) = false := by first | (simp; done) | (simp; omega)
    have hl1 : (0 : Int) < ((m :: ms).length : Int) := by first | (simp; done) | (simp; omega)
    have hl2 : (1 : Int) ≤ ((m :: ms).length : Int) := by first | (simp; done) | (simp; omega)
    have hcl : ((m :: ms).length : Int) ≤ (cap : Int) := by omega
    have hLL : (m :: ms).length = ms.length + 1 := by simp
    generalize (m :: ms).length = L at *
    go_enter Tryz.func106, Tryz.ntmps106
    go_wp2_with fail
    refine (hasCircle_any n hn A _ bl _ HST.out).mono ?_
    rintro e w2 ⟨bb, rfl, hbb, hb2⟩
    have HB : Hid (bb = true ↔ Cyc n A) := hbb
    have hbw2 := below_more hba hb2
    clear hbb
    cases bb
    · obtain ⟨c0, c1, c2, c3⟩ := mtC_keeps _ _ _ _ _ hbw2 HC0.out
      have m0 := World.block_lt_of_cell? _ _ c0
      simp only at m0
      obtain ⟨aoX, hX⟩ : ∃ aoX, (if cap = 1 then (some ⟨b, off, none⟩ : Option Addr) else some ⟨b, off + 4, none⟩) = aoX := ⟨_, rfl⟩
      have HRS : Hid (MtAt w (.slice aoX ms.length (cap - 1)) ms) := by
        rw [← hX]
        by_cases e : cap = 1
        · rw [if_pos e]
          have : ms = [] := List.eq_nil_of_length_eq_zero (by omega)
          subst this
          exact ⟨_, b, off, _, ⟨rfl, fun h => absurd rfl h, fun h => by simp at h, fun k x h => by simp at h⟩, Nat.zero_le _⟩
        · rw [if_neg e]
          refine ⟨_, b, off + 4, _, ⟨rfl, fun _ => rfl, fun h => by simp at h, fun k x hx => ?_⟩, by omega⟩
          have := HC.out (k + 1) x (by simpa using hx)
          rw [show off + (k + 1) * 4 = off + 4 + k * 4 by omega] at this
          exact this
      have hba3 := below_alloc w2 (.cells #[.int .i64 m.b, .int .i64 m.e, .int .i64 m.s, .int .i64 m.f] 173)
      have HST3 : Hid (SetAt (w2.alloc (.cells #[.int .i64 m.b, .int .i64 m.e, .int .i64 m.s, .int .i64 m.f] 173)) w.heap.size bl n A) := (HST.out.keep hb2).keep hba3
      have HBX : Hid (∀ w', Below (w2.heap.size + 1) (w2.alloc (.cells #[.int .i64 m.b, .int .i64 m.e, .int .i64 m.s, .int .i64 m.f] 173)) w' → w'.cell? ⟨w2.heap.size, 0, none⟩ = some (.int .i64 m.b) ∧ w'.cell? ⟨w2.heap.size, 2, none⟩ = some (.int .i64 m.s) ∧ w2.heap.size < w'.heap.size) := fun w' hb => by
        have h1 := hb.cell (p := ⟨w2.heap.size, 0, none⟩) (by simp)
        have h2 := hb.cell (p := ⟨w2.heap.size, 2, none⟩) (by simp)
        have h3 := hb.size
        exact ⟨h1.trans (by simp), h2.trans (by simp), by simp at h3; omega⟩
      have hbw3 : Below w.heap.size w (w2.alloc (.cells #[.int .i64 m.b, .int .i64 m.e, .int .i64 m.s, .int .i64 m.f] 173)) := below_more hbw2 hba3
      have HIH : Hid (∀ (A' : List (Int × Int)) (bl' : Nat) (w' : World), Below w.heap.size w w' → MatAt w' bl' n A' → Calls Tryz.prog 106 #[.agg #[.int .i64 n, .slice (some ⟨bl', 0, none⟩) (n * n) (n * n)], .slice aoX ms.length (cap - 1)] w' fun e w'' => ∃ b : Bool, e = .returned (.bool b) ∧ (b = true ↔ Parts n ms A') ∧ Below w'.heap.size w' w'') := fun A' bl' w' hb' hm' => ih (by omega) (fun _ => h0n) A' bl' _ w' hm' (HRS.out.keep hb')
      have HPC : Hid (Parts n (m :: ms) A ↔ ¬ Cyc n A ∧ (Parts n ms (A ++ [(m.e, m.f)]) ∨ Parts n ms (A ++ [(m.s, m.b)]))) := Iff.rfl
      have HNC : Hid (¬ Cyc n A) := fun h => by have := HB.out.2 h; cases this
      clear ih HRS hba3 HST HC0 HC
      go_wp2_with fail
      clear hX c0 c1 c2 c3
      generalize hW3 : w2.alloc (.cells #[.int .i64 m.b, .int .i64 m.e, .int .i64 m.s, .int .i64 m.f] 173) = W3 at *
      have hs3 : W3.heap.size = w2.heap.size + 1 := by rw [← hW3]; simp
      rw [← hs3] at HBX
      generalize w2.heap.size = q5 at *
      refine (with_any n hn h0n A w.heap.size bl m.e m.f W3 HST3.out).mono ?_
      rintro e w4 ⟨bl4, rfl, hbl4, hm4, hb4⟩
      have hbw4 := below_more hbw3 hb4
      have hba4 := below_alloc w4 (.cells #[.int .i64 n, .slice (some ⟨bl4, 0, none⟩) (n * n) (n * n)] 141)
      have HM4 : Hid (MatAt (w4.alloc (.cells #[.int .i64 n, .slice (some ⟨bl4, 0, none⟩) (n * n) (n * n)] 141)) bl4 n (A ++ [(m.e, m.f)])) := hm4.keep hba4
      have hbw5 : Below w.heap.size w (w4.alloc (.cells #[.int .i64 n, .slice (some ⟨bl4, 0, none⟩) (n * n) (n * n)] 141)) := below_more hbw4 hba4
      have hb35 : Below W3.heap.size W3 (w4.alloc (.cells #[.int .i64 n, .slice (some ⟨bl4, 0, none⟩) (n * n) (n * n)] 141)) := below_more hb4 hba4
      clear hm4 hba4
      go_wp2_with fail
      refine (HIH.out _ bl4 _ hbw5 HM4.out).mono ?_
      rintro e w6 ⟨b6, rfl, hi6, hb6⟩
      have H6 : Hid (b6 = true ↔ Parts n ms (A ++ [(m.e, m.f)])) := hi6
      have hbw6 := below_more hbw5 hb6
      have hb36 := below_more hb35 hb6
      clear hi6
      cases b6
      · obtain ⟨g0, g2, gs⟩ := HBX.out w6 hb36
        have HST6 : Hid (SetAt w6 w.heap.size bl n A) := HST3.out.keep hb36
        go_wp2_with fail
        refine (with_any n hn h0n A w.heap.size bl m.s m.b w6 HST6.out).mono ?_
        rintro e w7 ⟨bl7, rfl, hbl7, hm7, hb7⟩
        have hbw7 := below_more hbw6 hb7
        have hba7 := below_alloc w7 (.cells #[.int .i64 n, .slice (some ⟨bl7, 0, none⟩) (n * n) (n * n)] 141)
        have HM7 : Hid (MatAt (w7.alloc (.cells #[.int .i64 n, .slice (some ⟨bl7, 0, none⟩) (n * n) (n * n)] 141)) bl7 n (A ++ [(m.s, m.b)])) := hm7.keep hba7
        have hbw8 : Below w.heap.size w (w7.alloc (.cells #[.int .i64 n, .slice (some ⟨bl7, 0, none⟩) (n * n) (n * n)] 141)) := below_more hbw7 hba7
        clear hm7 hba7 g0 g2
        go_wp2_with fail
        refine (HIH.out _ bl7 _ hbw8 HM7.out).mono ?_
        rintro e w9 ⟨b9, rfl, hi9, hb9⟩
        have H9 : Hid (b9 = true ↔ Parts n ms (A ++ [(m.s, m.b)])) := hi9
        clear hi9
        go_wp2_with fail
        go_ret
        refine ⟨b9, rfl, ?_, below_more hbw8 hb9⟩
        rw [HPC.out, H9.out]
        constructor
        · intro h; exact ⟨HNC.out, .inr h⟩
        · rintro ⟨_, h | h⟩
          · have := H6.out.2 h; cases this
          · exact h
      · go_wp2_with fail
        go_ret
        exact ⟨true, rfl, ⟨fun _ => HPC.out.2 ⟨HNC.out, .inl (H6.out.1 trivial)⟩, fun _ => rfl⟩, hbw6⟩
    · go_wp2_with fail
      go_ret
      exact ⟨false, rfl, ⟨fun h => (by cases h), fun h => absurd (HB.out.1 trivial) h.1⟩, hbw2⟩

end Go.Proofs.YtomijmikkbhgmaaGreat

namespace Go.Proofs.YtomijmikkbhgmaaGreat
open Go.RowKit

theorem Tryz.infoMt : (Tryz.prog.info? 173).map (fun i => (i.zero, i.size, i.bytes)) = some (some (.agg #[.int .i64 0, .int .i64 0, .int .i64 0, .int .i64 0]), 4, 32) := by kernel_rfl

def mtV (m : Mt) : List Value := [.int .i64 m.b, .int .i64 m.e, .int .i64 m.s, .int .i64 m.f]
def MtOwn (base : Nat) (w : World) (u : Value) (l : List Mt) : Prop := w.ownsRow base 173 4 u l.length (l.flatMap mtV)
theorem MtOwn.at' {base : Nat} {w : World} {u : Value} {l : List Mt} (h : MtOwn base w u l) : MtAt w u l := by
  obtain ⟨ao, b, off, cap, h, _, hc⟩ := owns_read (C := MtC) mtV 4 (fun _ => rfl) (fun b off x hx => ⟨hx 0 _ rfl, hx 1 _ rfl, hx 2 _ rfl, hx 3 _ rfl⟩) h
  exact ⟨ao, b, off, cap, h, hc⟩
theorem mt_snoc {base : Nat} {w : World} {u : Value} {l : List Mt} {m : Mt} (h : w.ownsRow base 173 4 u (l.length + 1) (l.flatMap mtV ++ mtV m)) : MtOwn base w u (l ++ [m]) := by
  unfold MtOwn
  simpa using h

theorem mtL_step {b d s : List Int} {k : Nat} {x y : Int} (h1 : b[k]? = some x) (h2 : d[k]? = some y) : mtL (b.take (k + 1)) (d.take (k + 1)) s = mtL (b.take k) (d.take k) s ++ s.map fun q => ⟨x, y, q, q + 1⟩ := by
  have hb := (List.getElem?_eq_some_iff.1 h1).1
  have hd := (List.getElem?_eq_some_iff.1 h2).1
  unfold mtL
  rw [List.take_add_one, List.take_add_one, h1, h2]
  have hz : (b.take k ++ [x]).zip (d.take k ++ [y]) = (b.take k).zip (d.take k) ++ [(x, y)] := by
    rw [List.zip_append (by simp; omega)]
    rfl
  show List.flatMap _ ((b.take k ++ [x]).zip (d.take k ++ [y])) = _
  rw [hz, List.flatMap_append]
  simp

set_option maxRecDepth 20000 in
set_option maxHeartbeats 2000000 in
theorem meetings_any (E : List Evt) (hE : E.length ≤ 96) (hM : Mts E) (v : Value) (w : World) (h : Ev4At w v E) :
    Calls Tryz.prog 105 #[v] w fun e w' => ∃ u, e = .returned u ∧ MtAt w' u (mtL (thoL 2 E 0) (thoL 3 E 0) (thoL 4 E 0)) ∧ Below w.heap.size w w' := by
  have HT : Hid (∀ w', Below w.heap.size w w' → ∀ kd : Int, Calls Tryz.prog 142 #[v, .int .i64 kd] w' fun e w'' => ∃ u, e = .returned u ∧ IntNew w'.heap.size w'' u (thoL kd E 0) ∧ Below w'.heap.size w' w'') := fun w' hb kd => ofKind_any E hE kd v w' (h.keep hb)
  have hbe := hM.be
  have hb3 := hM.b3
  have hs2 := hM.s2
  have hsf : (thoL 5 E 0).length = (thoL 4 E 0).length := by rw [hM.sf, List.length_map]
  have HSF : Hid (∀ (j : Nat) (z : Int), (thoL 4 E 0)[j]? = some z → (thoL 5 E 0)[j]? = some (z + 1)) := fun j z hz => by rw [hM.sf, List.getElem?_map, hz]; rfl
  have HEND : Hid (mtL ((thoL 2 E 0).take (thoL 2 E 0).length) ((thoL 3 E 0).take (thoL 2 E 0).length) (thoL 4 E 0) = mtL (thoL 2 E 0) (thoL 3 E 0) (thoL 4 E 0)) := by
    show _ = _
    rw [List.take_length, ← hbe, List.take_length]
  generalize mtL (thoL 2 E 0) (thoL 3 E 0) (thoL 4 E 0) = MS at HEND ⊢
  obtain ⟨ao, b, off, cap, hv, _⟩ := h
  subst hv
  obtain ⟨i0, hi, hz0, hz1, hz2⟩ := info_parts Tryz.infoMt
  have HI : Hid (Tryz.prog.info? 173 = some i0 ∧ i0.zero = some (.agg #[.int .i64 0, .int .i64 0, .int .i64 0, .int .i64 0]) ∧ i0.size = 4 ∧ i0.bytes = 32) := ⟨hi, hz0, hz1, hz2⟩
  have H2 := HT.out w (Below.refl _ _) 2
  clear hM hi hz0 hz1 hz2
  go_enter Tryz.func105, Tryz.ntmps105
  go_wp2_with fail
  refine H2.mono ?_
  clear H2
  rintro e w2 ⟨u2, rfl, hu2, hb2⟩
  obtain ⟨ao2, b2, off2, cap2, ⟨hv2, ha2, _, hc2⟩, _⟩ := hu2
  subst hv2
  go_wp2_with fail
  refine (HT.out w2 hb2 3).mono ?_
  rintro e w3 ⟨u3, rfl, hu3, hb3'⟩
  obtain ⟨ao3, b3, off3, cap3, ⟨hv3, ha3, _, hc3⟩, _⟩ := hu3
  subst hv3
  have hbw3 := below_more hb2 hb3'
  go_wp2_with fail
  refine (HT.out w3 hbw3 4).mono ?_
  rintro e w4 ⟨u4, rfl, hu4, hb4⟩
  obtain ⟨ao4, b4, off4, cap4, ⟨hv4, ha4, _, hc4⟩, _⟩ := hu4
  subst hv4
  have hbw4 := below_more hbw3 hb4
  go_wp2_with fail
  refine (HT.out w4 hbw4 5).mono ?_
  rintro e w5 ⟨u5', rfl, hu5, hb5⟩
  obtain ⟨ao5, b5, off5, cap5, ⟨hv5, ha5, _, hc5⟩, _⟩ := hu5
  subst hv5
  have hbw5 := below_more hbw4 hb5
  have HL2 : Hid (∀ k x, (thoL 2 E 0)[k]? = some x → w5.cell? ⟨b2, off2 + k, none⟩ = some (.int .i64 x)) := fun k x hx => by
    have := keep_cell (below_more (below_more hb3' hb4) hb5) (hc2 k x hx)
    rw [Nat.mul_one] at this; exact this
  have HL3 : Hid (∀ k x, (thoL 3 E 0)[k]? = some x → w5.cell? ⟨b3, off3 + k, none⟩ = some (.int .i64 x)) := fun k x hx => by
    have := keep_cell (below_more hb4 hb5) (hc3 k x hx)
    rw [Nat.mul_one] at this; exact this
  have HL4 : Hid (∀ k x, (thoL 4 E 0)[k]? = some x → w5.cell? ⟨b4, off4 + k, none⟩ = some (.int .i64 x)) := fun k x hx => by
    have := keep_cell hb5 (hc4 k x hx)
    rw [Nat.mul_one] at this; exact this
  have HL5 : Hid (∀ k x, (thoL 5 E 0)[k]? = some x → w5.cell? ⟨b5, off5 + k, none⟩ = some (.int .i64 x)) := fun k x hx => by
    have := hc5 k x hx
    unfold IntC at this
    rw [Nat.mul_one] at this; exact this
  clear hb4 hb5 hbw3 hbw4 hc2 hc3 hc4 hc5 hb2 hb3' HT
  generalize thoL 2 E 0 = L2 at *
  generalize thoL 3 E 0 = L3 at *
  generalize thoL 4 E 0 = L4 at *
  generalize thoL 5 E 0 = L5 at *
  go_wp2_with fail
  go_loopw [7, 22] (fun u i wr => ∃ k : Nat, k ≤ L2.length ∧ i = .int .i64 k ∧ Hid (MtOwn w5.heap.size wr u (mtL (L2.take k) (L3.take k) L4)) ∧ Below w5.heap.size w5 wr) (fun _ i _ => L2.length - (intOf i).toNat)
  case atStart => exact ⟨0, Nat.zero_le _, rfl, World.ownsRow_nil _ _ _ _, Below.refl _ _⟩
  case round =>
    obtain ⟨k, hk, rfl, hown, hb⟩ := hrel
    by_cases hlt : k < L2.length
    · obtain ⟨x2, hx2⟩ := get_of_lt hlt
      obtain ⟨x3, hx3⟩ := get_of_lt (l := L3) (k := k) (by omega)
      obtain rfl := ha2 (ne_nil hlt)
      obtain rfl := ha3 (ne_nil (k := k) (by omega))
      have HC3 : Hid (w5.cell? ⟨b3, off3 + k, none⟩ = some (.int .i64 x3)) := HL3.out k x3 hx3
      have c2 := keep_cell hb (HL2.out k x2 hx2)
      have hkI : (k : Int) < (L2.length : Int) := by omega
      have hk3I : (k : Int) < (L3.length : Int) := by omega
      have HST : Hid (mtL (L2.take (k + 1)) (L3.take (k + 1)) L4 = mtL (L2.take k) (L3.take k) L4 ++ L4.map fun q => ⟨x2, x3, q, q + 1⟩) := mtL_step hx2 hx3
      have hml : (mtL (L2.take k) (L3.take k) L4).length ≤ 6 := by
        rw [mtL_len _ _ _ (by simp; omega), List.length_take]
        exact Nat.le_trans (Nat.mul_le_mul (by omega : min k L2.length ≤ 3) hs2) (by decide)
      generalize mtL (L2.take k) (L3.take k) L4 = M0 at hown HST hml
      have HO : Hid (MtOwn w5.heap.size wr u7 (M0 ++ (L4.take 0).map fun q => ⟨x2, x3, q, q + 1⟩)) := by
        show MtOwn w5.heap.size wr u7 (M0 ++ [])
        rw [List.append_nil]; exact hown.out
      clear hown hx2 hx3
      go_wp2_with fail
      clear c2
      go_loopw [7, 29] (fun u i wr => ∃ j : Nat, j ≤ L4.length ∧ i = .int .i64 j ∧ Hid (MtOwn w5.heap.size wr u (M0 ++ (L4.take j).map fun q => ⟨x2, x3, q, q + 1⟩)) ∧ Below w5.heap.size w5 wr) (fun _ i _ => L4.length - (intOf i).toNat)
      case atStart => exact ⟨0, Nat.zero_le _, rfl, HO.out, hb⟩
      case round =>
        clear HO hb
        obtain ⟨j, hj, rfl, hown, hb⟩ := hrel
        by_cases hjl : j < L4.length
        · obtain ⟨x4, hx4⟩ := get_of_lt hjl
          have hx5 := HSF.out j x4 hx4
          obtain rfl := ha4 (ne_nil hjl)
          obtain rfl := ha5 (ne_nil (k := j) (by omega))
          have c3 := keep_cell hb HC3.out
          have c4 := keep_cell hb (HL4.out j x4 hx4)
          have c5 := keep_cell hb (HL5.out j _ hx5)
          have hjI : (j : Int) < (L4.length : Int) := by omega
          have hj5I : (j : Int) < (L5.length : Int) := by omega
          have hd1 : decide ((k : Int) < (L3.length : Int)) = true := by simp; omega
          have hsz := hb.size
          have HN : Hid (M0 ++ (L4.take (j + 1)).map (fun q => (⟨x2, x3, q, q + 1⟩ : Mt)) = (M0 ++ (L4.take j).map fun q => ⟨x2, x3, q, q + 1⟩) ++ [⟨x2, x3, x4, x4 + 1⟩]) := by show _ = _; rw [List.take_add_one, hx4]; simp
          have hM1 : (M0 ++ (L4.take j).map fun q => (⟨x2, x3, q, q + 1⟩ : Mt)).length ≤ 100 := by rw [List.length_append, List.length_map, List.length_take]; omega
          generalize M0 ++ (L4.take j).map (fun q => (⟨x2, x3, q, q + 1⟩ : Mt)) = M1 at hown HN hM1
          generalize x4 + 1 = x5 at c5 HN
          have HO := hown
          clear hown hx4 hx5
          go_wp2_with fail
          go_region_law (refine step_append_new _ rfl (.tmp 44) (.tmp 56) 145 rfl w5.heap.size 173 i0 (.agg #[.int .i64 0, .int .i64 0, .int .i64 0, .int .i64 0]) 4 32 Tryz.underlying145 HI.out.1 HI.out.2.1 HI.out.2.2.1 HI.out.2.2.2 rfl (by decide) u7 M1.length (M1.flatMap mtV) (by simp [Act.eval]) (HO.out.drew.alloc _) (some ⟨wr.heap.size, 0, none⟩) 1 1 (mtV ⟨x2, x3, x4, x5⟩) (by simp [Act.eval]) (fun h => by cases h) rfl (fun ad had => by cases had; exact new_many rfl) (by simp [mtV, Value.oneCell']) (by unfold maxLen; omega) (by omega) (by simp; omega) ?_; intro u9 w9 hown9 hgrow9 hap9)
          all_goals
            have hb9 : Below w5.heap.size w5 w9 := Below.grown (hb.drew.alloc (by simp; omega) _) hgrow9 (by simp; omega) (fun kk e => (HO.out.lt kk e).1)
            have HO9 : Hid (MtOwn w5.heap.size w9 u9 (M0 ++ (L4.take (j + 1)).map fun q => ⟨x2, x3, q, q + 1⟩)) := by rw [HN.out]; exact mt_snoc hown9
            clear hgrow9 hown9 hap9
            go_wp2_with fail
            go_roundw
            case measure => simp [intOf]; omega
            case rel => exact ⟨j + 1, by omega, by go_num, HO9.out, hb9⟩
        · have hjI : (L4.length : Int) ≤ (j : Int) := by omega
          have htk : Hid (L4.take j = L4) := List.take_of_length_le (by omega)
          have HO2 : Hid (MtOwn w5.heap.size wr u7 (mtL (L2.take (k + 1)) (L3.take (k + 1)) L4)) := by rw [HST.out]; have := hown.out; rw [htk.out] at this; exact this
          clear hown
          go_wp2_with fail
          go_roundw
          case measure => simp [intOf]; omega
          case rel => exact ⟨k + 1, by omega, by go_num, HO2.out, hb⟩
    · have hkI : (L2.length : Int) ≤ (k : Int) := by omega
      have hkk : k = L2.length := by omega
      have HO := hown
      rw [hkk] at HO
      clear hown
      go_wp2_with fail
      go_ret
      exact ⟨_, rfl, by rw [← HEND.out]; exact HO.out.at', below_more hbw5 hb⟩

end Go.Proofs.YtomijmikkbhgmaaGreat

namespace Go.Proofs.YtomijmikkbhgmaaGreat
open Go.RowKit

theorem mts_len {E : List Evt} (h : Mts E) : (mtL (thoL 2 E 0) (thoL 3 E 0) (thoL 4 E 0)).length ≤ 6 ∧ (mtL (thoL 2 E 0) (thoL 3 E 0) (thoL 4 E 0) ≠ [] → 0 < E.length) := by
  refine ⟨?_, fun hne => ?_⟩
  · rw [mtL_len _ _ _ h.be]
    exact Nat.le_trans (Nat.mul_le_mul h.b3 h.s2) (by decide)
  · refine Nat.pos_of_ne_zero fun h0 => hne ?_
    have : E = [] := List.eq_nil_of_length_eq_zero h0
    subst this
    rfl

set_option maxRecDepth 20000 in
set_option maxHeartbeats 1000000 in
theorem of_any (T : List (List Ins)) (hS : Short T) (vt : Value) (E : List Evt) (hE : E.length ≤ 96) (hin : EvsIn T E) (hM : Mts E) (x : Exe) (hf : x.from'.length ≤ 96) (h3 : x.order.length ≤ 3) (h96 : ∀ l ∈ x.order, l.length ≤ 96) (hRb : ∀ i, i < E.length → 0 ≤ rankG E.length (srcL E x.from') x.order i ∧ rankG E.length (srcL E x.from') x.order i ≤ 1000) (v vf vo : Value) (w : World) (ht : ThrAt w vt T) (h : Ev4Cap w v E) (hx : ExeAt w vf vo x) :
    Calls Tryz.prog 54 #[vt, v, .agg #[vf, vo]] w fun e w' => ∃ r : Int, e = .returned (.int .i64 r) ∧ JudIs (Cyc E.length (cohB E x)) (tornQ (torQ E (rankG E.length (srcL E x.from') x.order)) E.length) (Cyc E.length (kepQ T E x)) (¬ Parts E.length (mtL (thoL 2 E 0) (thoL 3 E 0) (thoL 4 E 0)) (kepQ T E x)) r ∧ Below w.heap.size w w' := by
  have HSR : Hid (∀ w', Below w.heap.size w w' → Calls Tryz.prog 73 #[v, vf] w' fun e w'' => e = .returned (.slice (some ⟨w'.heap.size, 0, none⟩) E.length E.length) ∧ Row w' w'' w'.heap.size E.length (fun j => (srcL E x.from').getD j 0)) := fun w' hb => sourcesJ_any E hE x.from' hf v vf w' (h.at'.keep hb) (hx.f.keep hb)
  have hSl := srcL_len E x.from'
  have HRK : Hid (∀ w' vs, Below w.heap.size w w' → IntAt w' vs (srcL E x.from') → Calls Tryz.prog 99 #[v, vs, vo] w' fun e w'' => e = .returned (.slice (some ⟨w'.heap.size, 0, none⟩) E.length E.length) ∧ Row w' w'' w'.heap.size E.length (rankG E.length (srcL E x.from') x.order)) := fun w' vs hb hs => ranks_any E hE (srcL E x.from') hSl x.order h3 h96 v vs vo w' (h.at'.keep hb) hs (hx.o.keep hb)
  have HM : Hid (∀ w', Below w.heap.size w w' → Calls Tryz.prog 105 #[v] w' fun e w'' => ∃ u, e = .returned u ∧ MtAt w'' u (mtL (thoL 2 E 0) (thoL 3 E 0) (thoL 4 E 0)) ∧ Below w'.heap.size w' w'') := fun w' hb => meetings_any E hE hM v w' (h.at'.keep hb)
  have HML : Hid ((mtL (thoL 2 E 0) (thoL 3 E 0) (thoL 4 E 0)).length ≤ 6 ∧ (mtL (thoL 2 E 0) (thoL 3 E 0) (thoL 4 E 0) ≠ [] → 0 < E.length)) := mts_len hM
  generalize mtL (thoL 2 E 0) (thoL 3 E 0) (thoL 4 E 0) = MS at HM HML ⊢
  have HSQ : Hid ((List.range E.length).map (fun j => (srcL E x.from').getD j 0) = srcL E x.from') := range_getD _ _ hSl
  have HCB : Hid (cohB E x = allS (exF E (rankG E.length (srcL E x.from') x.order)) (fun j => (srcL E x.from').getD j 0) E.length E.length ++ allU (pairB E cohQ) E.length) := rfl
  have HKQ : Hid (kepQ T E x = allS (exF E (rankG E.length (srcL E x.from') x.order)) (fun j => (srcL E x.from').getD j 0) E.length E.length ++ allU (pairB E (keepQ T E)) E.length) := rfl
  have HEV : Hid (Ev4Cap w v E ∧ ThrAt w vt T ∧ Short T ∧ EvsIn T E) := ⟨h, ht, hS, hin⟩
  obtain ⟨aof, capf, hvf⟩ := hx.f.form
  obtain ⟨aoo, bo, offo, capo, hvo, _⟩ := hx.o
  obtain ⟨_, aoT, bT, offT, capT, hvT, _⟩ := ht
  obtain ⟨ao, b, off, cap, ⟨hv, _, _, _⟩, _⟩ := h
  subst hv hvf hvo hvT
  generalize rankG E.length (srcL E x.from') x.order = R at *
  generalize hSS : (fun j => (srcL E x.from').getD j 0) = S at *
  generalize srcL E x.from' = SL at *
  have HRB : Hid (∀ i, i < E.length → 0 ≤ R i ∧ R i ≤ 1000) := hRb
  clear hSS hSl hRb hx hM hS hin
  go_enter Tryz.func54, Tryz.ntmps54
  go_wp2_with fail
  have hba := below_alloc w (.cells #[.slice aof x.from'.length capf, .slice aoo x.order.length capo] 29)
  refine (HSR.out _ hba).mono ?_
  rintro e w2 ⟨rfl, hrow2⟩
  have hbw2 := below_more hba hrow2.hb
  have hI2 := hrow2.list
  rw [HSQ.out] at hI2
  have e0 := keep_cell hrow2.hb (b := w.heap.size) (off := 1) (u := .slice aoo x.order.length capo) (by simp)
  rw [World.size_alloc] at hI2 ⊢
  generalize w.heap.size + 1 = q2 at hI2 ⊢
  have HI2 : Hid (IntAt w2 (.slice (some ⟨q2, 0, none⟩) E.length E.length) SL) := hI2
  clear hrow2 hI2
  go_wp2_with fail
  refine (HRK.out w2 _ hbw2 HI2.out).mono ?_
  rintro e w3 ⟨rfl, hrow3⟩
  have hbw3 := below_more hbw2 hrow3.hb
  have hI3 := hrow3.list
  have HI23 : Hid (IntAt w3 (.slice (some ⟨q2, 0, none⟩) E.length E.length) ((List.range E.length).map S)) := by rw [HSQ.out]; exact HI2.out.keep hrow3.hb
  generalize w2.heap.size = q3 at hI3 ⊢
  have HI3 : Hid (IntAt w3 (.slice (some ⟨q3, 0, none⟩) E.length E.length) ((List.range E.length).map R)) := hI3
  have HEV3 : Hid (Ev4Cap w3 (.slice ao E.length cap) E) := HEV.out.1.keep hbw3
  clear hrow3 hI3 e0 HI2
  go_wp2_with fail
  refine (isIncoherent_any E hE S R _ _ _ w3 HEV3.out HI23.out HI3.out).mono ?_
  rw [← HCB.out]
  rintro e w4 ⟨b4, rfl, hi4, hb4⟩
  have hbw4 := below_more hbw3 hb4
  have HP : Hid (b4 = true ↔ Cyc E.length (cohB E x)) := hi4
  clear hi4
  cases b4
  · have HNP : Hid (¬ Cyc E.length (cohB E x)) := fun h => by have := HP.out.2 h; cases this
    go_wp2_with fail
    refine (isTorn_any E hE R HRB.out _ _ w4 (HEV3.out.keep hb4) (HI3.out.keep hb4)).mono ?_
    generalize htb : tornQ (torQ E R) E.length = tb
    have HTB : Hid (tornQ (torQ E R) E.length = tb) := htb
    clear htb
    rintro e w5 ⟨rfl, hb5⟩
    have hb45 := below_more hb4 hb5
    have hbw5 := below_more hbw4 hb5
    cases tb
    · go_wp2_with fail
      refine (executed_any E hE S R _ _ _ w5 (HEV3.out.keep hb45).at' (HI23.out.keep hb45) (HI3.out.keep hb45)).mono ?_
      rintro e w6 ⟨bl, rfl, hblw, hm6, hb6⟩
      have hbw6 := below_more hbw5 hb6
      have hba6 := below_alloc w6 (.cells #[.int .i64 E.length, .slice (some ⟨bl, 0, none⟩) (E.length * E.length) (E.length * E.length)] 141)
      have hst6 : SetAt (w6.alloc (.cells #[.int .i64 E.length, .slice (some ⟨bl, 0, none⟩) (E.length * E.length) (E.length * E.length)] 141)) w6.heap.size bl E.length (allS (exF E R) S E.length E.length) := ⟨by simp, by simp, hm6.keep hba6, by have := hm6.lt; omega⟩
      have HAK : Hid (Calls Tryz.prog 103 #[.pointer (some ⟨w6.heap.size, 0, none⟩), .slice aoT T.length capT, .slice ao E.length cap] (w6.alloc (.cells #[.int .i64 E.length, .slice (some ⟨bl, 0, none⟩) (E.length * E.length) (E.length * E.length)] 141)) fun e w' => ∃ r, e = .returned r ∧ SetAt w' w6.heap.size bl E.length (allS (exF E R) S E.length E.length ++ allU (pairB E (keepQ T E)) E.length) ∧ Only bl (w6.alloc (.cells #[.int .i64 E.length, .slice (some ⟨bl, 0, none⟩) (E.length * E.length) (E.length * E.length)] 141)) w') :=
        addKept_any T HEV.out.2.2.1 _ E hE HEV.out.2.2.2 _ _ w6.heap.size bl w5 _ (HEV.out.2.1.keep hbw5) (HEV.out.1.keep hbw5) (below_more hb6 hba6) hblw hst6
      clear hst6
      go_wp2_with fail
      refine HAK.out.mono ?_
      rw [← HKQ.out]
      rintro e w7 ⟨r7, rfl, hst7, hon7⟩
      have hbw7 : Below w.heap.size w w7 := (below_more hbw6 hba6).trans (hon7.below (by have := hbw5.size; omega) (below_more hbw6 hba6).size)
      generalize w6.heap.size = p6 at *
      have HST7 : Hid (SetAt w7 p6 bl E.length (kepQ T E x)) := hst7
      clear hst7 hon7 HAK hm6
      go_wp2_with fail
      refine (hasCircle_any E.length hE _ p6 bl w7 HST7.out).mono ?_
      rintro e w8 ⟨b8, rfl, hi8, hb8⟩
      have hbw8 := below_more hbw7 hb8
      have HQ8 : Hid (b8 = true ↔ Cyc E.length (kepQ T E x)) := hi8
      clear hi8
      cases b8
      · have HNQ : Hid (¬ Cyc E.length (kepQ T E x)) := fun h => by have := HQ8.out.2 h; cases this
        go_wp2_with fail
        refine (HM.out w8 hbw8).mono ?_
        rintro e w9 ⟨u9, rfl, hu9, hb9⟩
        have hbw9 := below_more hbw8 hb9
        obtain ⟨s0, s1, hmat9, _⟩ := (HST7.out.keep hb8).keep hb9
        have HMT : Hid (MatAt w9 bl E.length (kepQ T E x) ∧ MtAt w9 u9 MS) := ⟨hmat9, hu9⟩
        clear hmat9 hu9
        go_wp2_with fail
        refine (parted_any E.length hE MS HML.out.1 HML.out.2 _ bl _ w9 HMT.out.1 HMT.out.2).mono ?_
        rintro e w10 ⟨b10, rfl, hi10, hb10⟩
        have H10 : Hid (b10 = true ↔ Parts E.length MS (kepQ T E x)) := hi10
        clear hi10
        cases b10
        · have HS10 : Hid (¬ Parts E.length MS (kepQ T E x)) := fun h => by have := H10.out.2 h; cases this
          go_wp2_with fail
          go_ret
          exact ⟨4, rfl, .inr ⟨HNP.out, .inr ⟨HTB.out, .inr ⟨HNQ.out, .inl ⟨rfl, HS10.out⟩⟩⟩⟩, below_more hbw9 hb10⟩
        · go_wp2_with fail
          go_ret
          exact ⟨0, rfl, .inr ⟨HNP.out, .inr ⟨HTB.out, .inr ⟨HNQ.out, .inr ⟨fun h => h (H10.out.1 trivial), rfl⟩⟩⟩⟩, below_more hbw9 hb10⟩
      · go_wp2_with fail
        go_ret
        exact ⟨3, rfl, .inr ⟨HNP.out, .inr ⟨HTB.out, .inl ⟨rfl, HQ8.out.1 trivial⟩⟩⟩, hbw8⟩
    · go_wp2_with fail
      go_ret
      exact ⟨2, rfl, .inr ⟨HNP.out, .inl ⟨rfl, HTB.out⟩⟩, hbw5⟩
  · go_wp2_with fail
    go_ret
    exact ⟨1, rfl, .inl ⟨rfl, HP.out.1 trivial⟩, hbw4⟩


end Go.Proofs.YtomijmikkbhgmaaGreat
