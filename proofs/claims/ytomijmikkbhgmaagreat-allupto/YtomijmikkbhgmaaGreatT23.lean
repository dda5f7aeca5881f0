import Derived.Test.YtomijmikkbhgmaaGreatT22
import Derived.Deep.RegionLaw
import Derived.Test.YtomijmikkbhgmaaGreatT19
import Derived.Deep.QuietTactic
import Derived.BigQuiet
import Derived.Test.YtomijmikkbhgmaaGreatLu
import Derived.Test.YtomijmikkbhgmaaGreatT1
import Derived.Test.YtomijmikkbhgmaaGreatT4
namespace Go.Proofs.YtomijmikkbhgmaaGreat
open Go.RowKit

theorem Tryz.infoMt : (Tryz.prog.info? 173).map (fun i => (i.zero, i.size, i.bytes)) = some (some (.agg #[.int .i64 0, .int .i64 0, .int .i64 0, .int .i64 0]), 4, 32) := by kernel_rfl

def mtV (m : Mt) : List Value := [.int .i64 m.b, .int .i64 m.e, .int .i64 m.s, .int .i64 m.f]
def MtOwn (base : Nat) (w : World) (u : Value) (l : List Mt) : Prop := w.ownsRow base 173 4 u l.length (l.flatMap mtV)
theorem MtOwn.at' {base : Nat} {w : World} {u : Value} {l : List Mt} (h : MtOwn base w u l) : MtAt w u l := by
  obtain ⟨ao, b, off, cap, h, _, hc⟩ := owns_read (C := MtC) mtV 4 (fun _ => rfl) (fun b off x hx => ⟨hx 0 _ rfl, hx 1 _ rfl, hx 2 _ rfl, hx 3 _ rfl⟩) h
  exact ⟨ao, b, off, cap, h, hc⟩
theorem mt_snoc {base : Nat} {w : World} {u : Value} {l : List Mt} {m : Mt} (h : w.ownsRow base 173 4 u (l.length + 1) (l.flatMap mtV ++ mtV m)) : MtOwn base w u (l ++ [m]) := by
  unfold MtOwn
  simpa using h

theorem mtL_step {b d s : List Int} {k : Nat} {x y : Int} (h1 : b[k]? = some x) (h2 : d[k]? = some y) : mtL (b.take (k + 1)) (d.take (k + 1)) s = mtL (b.take k) (d.take k) s ++ s.map fun q => ⟨x, y, q, q + 1⟩ := by
  have hb := (List.getElem?_eq_some_iff.1 h1).1
  have hd := (List.getElem?_eq_some_iff.1 h2).1
  unfold mtL
  rw [List.take_add_one, List.take_add_one, h1, h2]
  have hz : (b.take k ++ [x]).zip (d.take k ++ [y]) = (b.take k).zip (d.take k) ++ [(x, y)] := by
    rw [List.zip_append (by simp; omega)]
    rfl
  show List.flatMap _ ((b.take k ++ [x]).zip (d.take k ++ [y])) = _
  rw [hz, List.flatMap_append]
  simp

set_option maxRecDepth 20000 in
set_option maxHeartbeats 2000000 in
theorem meetings_any (E : List Evt) (hE : E.length ≤ 96) (hM : Mts E) (v : Value) (w : World) (h : Ev4At w v E) :
    Calls Tryz.prog 105 #[v] w fun e w' => ∃ u, e = .returned u ∧ MtAt w' u (mtL (thoL 2 E 0) (thoL 3 E 0) (thoL 4 E 0)) ∧ Below w.heap.size w w' := by
  have HT : Hid (∀ w', Below w.heap.size w w' → ∀ kd : Int, Calls Tryz.prog 142 #[v, .int .i64 kd] w' fun e w'' => ∃ u, e = .returned u ∧ IntNew w'.heap.size w'' u (thoL kd E 0) ∧ Below w'.heap.size w' w'') := fun w' hb kd => ofKind_any E hE kd v w' (h.keep hb)
  have hbe := hM.be
  have hb3 := hM.b3
  have hs2 := hM.s2
  have hsf : (thoL 5 E 0).length = (thoL 4 E 0).length := by rw [hM.sf, List.length_map]
  have HSF : Hid (∀ (j : Nat) (z : Int), (thoL 4 E 0)[j]? = some z → (thoL 5 E 0)[j]? = some (z + 1)) := fun j z hz => by rw [hM.sf, List.getElem?_map, hz]; rfl
  have HEND : Hid (mtL ((thoL 2 E 0).take (thoL 2 E 0).length) ((thoL 3 E 0).take (thoL 2 E 0).length) (thoL 4 E 0) = mtL (thoL 2 E 0) (thoL 3 E 0) (thoL 4 E 0)) := by
    show _ = _
    rw [List.take_length, ← hbe, List.take_length]
  generalize mtL (thoL 2 E 0) (thoL 3 E 0) (thoL 4 E 0) = MS at HEND ⊢
  obtain ⟨ao, b, off, cap, hv, _⟩ := h
  subst hv
  obtain ⟨i0, hi, hz0, hz1, hz2⟩ := info_parts Tryz.infoMt
  have HI : Hid (Tryz.prog.info? 173 = some i0 ∧ i0.zero = some (.agg #[.int .i64 0, .int .i64 0, .int .i64 0, .int .i64 0]) ∧ i0.size = 4 ∧ i0.bytes = 32) := ⟨hi, hz0, hz1, hz2⟩
  have H2 := HT.out w (Below.refl _ _) 2
  clear hM hi hz0 hz1 hz2
  go_enter Tryz.func105, Tryz.ntmps105
  go_wp2_with fail
  refine H2.mono ?_
  clear H2
  rintro e w2 ⟨u2, rfl, hu2, hb2⟩
  obtain ⟨ao2, b2, off2, cap2, ⟨hv2, ha2, _, hc2⟩, _⟩ := hu2
  subst hv2
  go_wp2_with fail
  refine (HT.out w2 hb2 3).mono ?_
  rintro e w3 ⟨u3, rfl, hu3, hb3'⟩
  obtain ⟨ao3, b3, off3, cap3, ⟨hv3, ha3, _, hc3⟩, _⟩ := hu3
  subst hv3
  have hbw3 := below_more hb2 hb3'
  go_wp2_with fail
  refine (HT.out w3 hbw3 4).mono ?_
  rintro e w4 ⟨u4, rfl, hu4, hb4⟩
  obtain ⟨ao4, b4, off4, cap4, ⟨hv4, ha4, _, hc4⟩, _⟩ := hu4
  subst hv4
  have hbw4 := below_more hbw3 hb4
  go_wp2_with fail
  refine (HT.out w4 hbw4 5).mono ?_
  rintro e w5 ⟨u5', rfl, hu5, hb5⟩
  obtain ⟨ao5, b5, off5, cap5, ⟨hv5, ha5, _, hc5⟩, _⟩ := hu5
  subst hv5
  have hbw5 := below_more hbw4 hb5
  have HL2 : Hid (∀ k x, (thoL 2 E 0)[k]? = some x → w5.cell? ⟨b2, off2 + k, none⟩ = some (.int .i64 x)) := fun k x hx => by
    have := keep_cell (below_more (below_more hb3' hb4) hb5) (hc2 k x hx)
    rw [Nat.mul_one] at this; exact this
  have HL3 : Hid (∀ k x, (thoL 3 E 0)[k]? = some x → w5.cell? ⟨b3, off3 + k, none⟩ = some (.int .i64 x)) := fun k x hx => by
    have := keep_cell (below_more hb4 hb5) (hc3 k x hx)
    rw [Nat.mul_one] at this; exact this
  have HL4 : Hid (∀ k x, (thoL 4 E 0)[k]? = some x → w5.cell? ⟨b4, off4 + k, none⟩ = some (.int .i64 x)) := fun k x hx => by
    have := keep_cell hb5 (hc4 k x hx)
    rw [Nat.mul_one] at this; exact this
  have HL5 : Hid (∀ k x, (thoL 5 E 0)[k]? = some x → w5.cell? ⟨b5, off5 + k, none⟩ = some (.int .i64 x)) := fun k x hx => by
    have := hc5 k x hx
    unfold IntC at this
    rw [Nat.mul_one] at this; exact this
  clear hb4 hb5 hbw3 hbw4 hc2 hc3 hc4 hc5 hb2 hb3' HT
  generalize thoL 2 E 0 = L2 at *
  generalize thoL 3 E 0 = L3 at *
  generalize thoL 4 E 0 = L4 at *
  generalize thoL 5 E 0 = L5 at *
  go_wp2_with fail
  go_loopw [7, 22] (fun u i wr => ∃ k : Nat, k ≤ L2.length ∧ i = .int .i64 k ∧ Hid (MtOwn w5.heap.size wr u (mtL (L2.take k) (L3.take k) L4)) ∧ Below w5.heap.size w5 wr) (fun _ i _ => L2.length - (intOf i).toNat)
  case atStart => exact ⟨0, Nat.zero_le _, rfl, World.ownsRow_nil _ _ _ _, Below.refl _ _⟩
  case round =>
    obtain ⟨k, hk, rfl, hown, hb⟩ := hrel
    by_cases hlt : k < L2.length
    · obtain ⟨x2, hx2⟩ := get_of_lt hlt
      obtain ⟨x3, hx3⟩ := get_of_lt (l := L3) (k := k) (by omega)
      obtain rfl := ha2 (ne_nil hlt)
      obtain rfl := ha3 (ne_nil (k := k) (by omega))
      have HC3 : Hid (w5.cell? ⟨b3, off3 + k, none⟩ = some (.int .i64 x3)) := HL3.out k x3 hx3
      have c2 := keep_cell hb (HL2.out k x2 hx2)
      have hkI : (k : Int) < (L2.length : Int) := by omega
      have hk3I : (k : Int) < (L3.length : Int) := by omega
      have HST : Hid (mtL (L2.take (k + 1)) (L3.take (k + 1)) L4 = mtL (L2.take k) (L3.take k) L4 ++ L4.map fun q => ⟨x2, x3, q, q + 1⟩) := mtL_step hx2 hx3
      have hml : (mtL (L2.take k) (L3.take k) L4).length ≤ 6 := by
        rw [mtL_len _ _ _ (by simp; omega), List.length_take]
        exact Nat.le_trans (Nat.mul_le_mul (by omega : min k L2.length ≤ 3) hs2) (by decide)
      generalize mtL (L2.take k) (L3.take k) L4 = M0 at hown HST hml
      have HO : Hid (MtOwn w5.heap.size wr u7 (M0 ++ (L4.take 0).map fun q => ⟨x2, x3, q, q + 1⟩)) := by
        show MtOwn w5.heap.size wr u7 (M0 ++ [])
        rw [List.append_nil]; exact hown.out
      clear hown hx2 hx3
      go_wp2_with fail
      clear c2
      go_loopw [7, 29] (fun u i wr => ∃ j : Nat, j ≤ L4.length ∧ i = .int .i64 j ∧ Hid (MtOwn w5.heap.size wr u (M0 ++ (L4.take j).map fun q => ⟨x2, x3, q, q + 1⟩)) ∧ Below w5.heap.size w5 wr) (fun _ i _ => L4.length - (intOf i).toNat)
      case atStart => exact ⟨0, Nat.zero_le _, rfl, HO.out, hb⟩
      case round =>
        clear HO hb
        obtain ⟨j, hj, rfl, hown, hb⟩ := hrel
        by_cases hjl : j < L4.length
        · obtain ⟨x4, hx4⟩ := get_of_lt hjl
          have hx5 := HSF.out j x4 hx4
          obtain rfl := ha4 (ne_nil hjl)
          obtain rfl := ha5 (ne_nil (k := j) (by omega))
          have c3 := keep_cell hb HC3.out
          have c4 := keep_cell hb (HL4.out j x4 hx4)
          have c5 := keep_cell hb (HL5.out j _ hx5)
          have hjI : (j : Int) < (L4.length : Int) := by omega
          have hj5I : (j : Int) < (L5.length : Int) := by omega
          have hd1 : decide ((k : Int) < (L3.length : Int)) = true := by simp; omega
          have hsz := hb.size
          have HN : Hid (M0 ++ (L4.take (j + 1)).map (fun q => (⟨x2, x3, q, q + 1⟩ : Mt)) = (M0 ++ (L4.take j).map fun q => ⟨x2, x3, q, q + 1⟩) ++ [⟨x2, x3, x4, x4 + 1⟩]) := by show _ = _; rw [List.take_add_one, hx4]; simp
          have hM1 : (M0 ++ (L4.take j).map fun q => (⟨x2, x3, q, q + 1⟩ : Mt)).length ≤ 100 := by rw [List.length_append, List.length_map, List.length_take]; omega
          generalize M0 ++ (L4.take j).map (fun q => (⟨x2, x3, q, q + 1⟩ : Mt)) = M1 at hown HN hM1
          generalize x4 + 1 = x5 at c5 HN
          have HO := hown
          clear hown hx4 hx5
          go_wp2_with fail
          go_region_law (refine step_append_new _ rfl (.tmp 44) (.tmp 56) 145 rfl w5.heap.size 173 i0 (.agg #[.int .i64 0, .int .i64 0, .int .i64 0, .int .i64 0]) 4 32 Tryz.underlying145 HI.out.1 HI.out.2.1 HI.out.2.2.1 HI.out.2.2.2 rfl (by decide) u7 M1.length (M1.flatMap mtV) (by simp [Act.eval]) (HO.out.drew.alloc _) (some ⟨wr.heap.size, 0, none⟩) 1 1 (mtV ⟨x2, x3, x4, x5⟩) (by simp [Act.eval]) (fun h => by cases h) rfl (fun ad had => by cases had; exact new_many rfl) (by simp [mtV, Value.oneCell']) (by unfold maxLen; omega) (by omega) (by simp; omega) ?_; intro u9 w9 hown9 hgrow9 hap9)
          all_goals
            have hb9 : Below w5.heap.size w5 w9 := Below.grown (hb.drew.alloc (by simp; omega) _) hgrow9 (by simp; omega) (fun kk e => (HO.out.lt kk e).1)
            have HO9 : Hid (MtOwn w5.heap.size w9 u9 (M0 ++ (L4.take (j + 1)).map fun q => ⟨x2, x3, q, q + 1⟩)) := by rw [HN.out]; exact mt_snoc hown9
            clear hgrow9 hown9 hap9
            go_wp2_with fail
            go_roundw
            case measure => simp [intOf]; omega
            case rel => exact ⟨j + 1, by omega, by go_num, HO9.out, hb9⟩
        · have hjI : (L4.length : Int) ≤ (j : Int) := by omega
          have htk : Hid (L4.take j = L4) := List.take_of_length_le (by omega)
          have HO2 : Hid (MtOwn w5.heap.size wr u7 (mtL (L2.take (k + 1)) (L3.take (k + 1)) L4)) := by rw [HST.out]; have := hown.out; rw [htk.out] at this; exact this
          clear hown
          go_wp2_with fail
          go_roundw
          case measure => simp [intOf]; omega
          case rel => exact ⟨k + 1, by omega, by go_num, HO2.out, hb⟩
    · have hkI : (L2.length : Int) ≤ (k : Int) := by omega
      have hkk : k = L2.length := by omega
      have HO := hown
      rw [hkk] at HO
      clear hown
      go_wp2_with fail
      go_ret
      exact ⟨_, rfl, by rw [← HEND.out]; exact HO.out.at', below_more hbw5 hb⟩

end Go.Proofs.YtomijmikkbhgmaaGreat

namespace Go.Proofs.YtomijmikkbhgmaaGreat
open Go.RowKit

theorem mts_len {E : List Evt} (h : Mts E) : (mtL (thoL 2 E 0) (thoL 3 E 0) (thoL 4 E 0)).length ≤ 6 ∧ (mtL (thoL 2 E 0) (thoL 3 E 0) (thoL 4 E 0) ≠ [] → 0 < E.length) := by
  refine ⟨?_, fun hne => ?_⟩
  · rw [mtL_len _ _ _ h.be]
    exact Nat.le_trans (Nat.mul_le_mul h.b3 h.s2) (by decide)
  · refine Nat.pos_of_ne_zero fun h0 => hne ?_
    have : E = [] := List.eq_nil_of_length_eq_zero h0
    subst this
    rfl

set_option maxRecDepth 20000 in
set_option maxHeartbeats 1000000 in
theorem of_any (T : List (List Ins)) (hS : Short T) (vt : Value) (E : List Evt) (hE : E.length ≤ 96) (hin : EvsIn T E) (hM : Mts E) (x : Exe) (hf : x.from'.length ≤ 96) (h3 : x.order.length ≤ 3) (h96 : ∀ l ∈ x.order, l.length ≤ 96) (hRb : ∀ i, i < E.length → 0 ≤ rankG E.length (srcL E x.from') x.order i ∧ rankG E.length (srcL E x.from') x.order i ≤ 1000) (v vf vo : Value) (w : World) (ht : ThrAt w vt T) (h : Ev4Cap w v E) (hx : ExeAt w vf vo x) :
    Calls Tryz.prog 54 #[vt, v, .agg #[vf, vo]] w fun e w' => ∃ r : Int, e = .returned (.int .i64 r) ∧ JudIs (Cyc E.length (cohB E x)) (tornQ (torQ E (rankG E.length (srcL E x.from') x.order)) E.length) (Cyc E.length (kepQ T E x)) (¬ Parts E.length (mtL (thoL 2 E 0) (thoL 3 E 0) (thoL 4 E 0)) (kepQ T E x)) r ∧ Below w.heap.size w w' := by
  have HSR : Hid (∀ w', Below w.heap.size w w' → Calls Tryz.prog 73 #[v, vf] w' fun e w'' => e = .returned (.slice (some ⟨w'.heap.size, 0, none⟩) E.length E.length) ∧ Row w' w'' w'.heap.size E.length (fun j => (srcL E x.from').getD j 0)) := fun w' hb => sourcesJ_any E hE x.from' hf v vf w' (h.at'.keep hb) (hx.f.keep hb)
  have hSl := srcL_len E x.from'
  have HRK : Hid (∀ w' vs, Below w.heap.size w w' → IntAt w' vs (srcL E x.from') → Calls Tryz.prog 99 #[v, vs, vo] w' fun e w'' => e = .returned (.slice (some ⟨w'.heap.size, 0, none⟩) E.length E.length) ∧ Row w' w'' w'.heap.size E.length (rankG E.length (srcL E x.from') x.order)) := fun w' vs hb hs => ranks_any E hE (srcL E x.from') hSl x.order h3 h96 v vs vo w' (h.at'.keep hb) hs (hx.o.keep hb)
  have HM : Hid (∀ w', Below w.heap.size w w' → Calls Tryz.prog 105 #[v] w' fun e w'' => ∃ u, e = .returned u ∧ MtAt w'' u (mtL (thoL 2 E 0) (thoL 3 E 0) (thoL 4 E 0)) ∧ Below w'.heap.size w' w'') := fun w' hb => meetings_any E hE hM v w' (h.at'.keep hb)
  have HML : Hid ((mtL (thoL 2 E 0) (thoL 3 E 0) (thoL 4 E 0)).length ≤ 6 ∧ (mtL (thoL 2 E 0) (thoL 3 E 0) (thoL 4 E 0) ≠ [] → 0 < E.length)) := mts_len hM
  generalize mtL (thoL 2 E 0) (thoL 3 E 0) (thoL 4 E 0) = MS at HM HML ⊢
  have HSQ : Hid ((List.range E.length).map (fun j => (srcL E x.from').getD j 0) = srcL E x.from') := range_getD _ _ hSl
  have HCB : Hid (cohB E x = allS (exF E (rankG E.length (srcL E x.from') x.order)) (fun j => (srcL E x.from').getD j 0) E.length E.length ++ allU (pairB E cohQ) E.length) := rfl
  have HKQ : Hid (kepQ T E x = allS (exF E (rankG E.length (srcL E x.from') x.order)) (fun j => (srcL E x.from').getD j 0) E.length E.length ++ allU (pairB E (keepQ T E)) E.length) := rfl
  have HEV : Hid (Ev4Cap w v E ∧ ThrAt w vt T ∧ Short T ∧ EvsIn T E) := ⟨h, ht, hS, hin⟩
  obtain ⟨aof, capf, hvf⟩ := hx.f.form
  obtain ⟨aoo, bo, offo, capo, hvo, _⟩ := hx.o
  obtain ⟨_, aoT, bT, offT, capT, hvT, _⟩ := ht
  obtain ⟨ao, b, off, cap, ⟨hv, _, _, _⟩, _⟩ := h
  subst hv hvf hvo hvT
  generalize rankG E.length (srcL E x.from') x.order = R at *
  generalize hSS : (fun j => (srcL E x.from').getD j 0) = S at *
  generalize srcL E x.from' = SL at *
  have HRB : Hid (∀ i, i < E.length → 0 ≤ R i ∧ R i ≤ 1000) := hRb
  clear hSS hSl hRb hx hM hS hin
  go_enter Tryz.func54, Tryz.ntmps54
  go_wp2_with fail
  have hba := below_alloc w (.cells #[.slice aof x.from'.length capf, .slice aoo x.order.length capo] 29)
  refine (HSR.out _ hba).mono ?_
  rintro e w2 ⟨rfl, hrow2⟩
  have hbw2 := below_more hba hrow2.hb
  have hI2 := hrow2.list
  rw [HSQ.out] at hI2
  have e0 := keep_cell hrow2.hb (b := w.heap.size) (off := 1) (u := .slice aoo x.order.length capo) (by simp)
  rw [World.size_alloc] at hI2 ⊢
  generalize w.heap.size + 1 = q2 at hI2 ⊢
  have HI2 : Hid (IntAt w2 (.slice (some ⟨q2, 0, none⟩) E.length E.length) SL) := hI2
  clear hrow2 hI2
  go_wp2_with fail
  refine (HRK.out w2 _ hbw2 HI2.out).mono ?_
  rintro e w3 ⟨rfl, hrow3⟩
  have hbw3 := below_more hbw2 hrow3.hb
  have hI3 := hrow3.list
  have HI23 : Hid (IntAt w3 (.slice (some ⟨q2, 0, none⟩) E.length E.length) ((List.range E.length).map S)) := by rw [HSQ.out]; exact HI2.out.keep hrow3.hb
  generalize w2.heap.size = q3 at hI3 ⊢
  have HI3 : Hid (IntAt w3 (.slice (some ⟨q3, 0, none⟩) E.length E.length) ((List.range E.length).map R)) := hI3
  have HEV3 : Hid (Ev4Cap w3 (.slice ao E.length cap) E) := HEV.out.1.keep hbw3
  clear hrow3 hI3 e0 HI2
  go_wp2_with fail
  refine (isIncoherent_any E hE S R _ _ _ w3 HEV3.out HI23.out HI3.out).mono ?_
  rw [← HCB.out]
  rintro e w4 ⟨b4, rfl, hi4, hb4⟩
  have hbw4 := below_more hbw3 hb4
  have HP : Hid (b4 = true ↔ Cyc E.length (cohB E x)) := hi4
  clear hi4
  cases b4
  · have HNP : Hid (¬ Cyc E.length (cohB E x)) := fun h => by have := HP.out.2 h; cases this
    go_wp2_with fail
    refine (isTorn_any E hE R HRB.out _ _ w4 (HEV3.out.keep hb4) (HI3.out.keep hb4)).mono ?_
    generalize htb : tornQ (torQ E R) E.length = tb
    have HTB : Hid (tornQ (torQ E R) E.length = tb) := htb
    clear htb
    rintro e w5 ⟨rfl, hb5⟩
    have hb45 := below_more hb4 hb5
    have hbw5 := below_more hbw4 hb5
    cases tb
    · go_wp2_with fail
      refine (executed_any E hE S R _ _ _ w5 (HEV3.out.keep hb45).at' (HI23.out.keep hb45) (HI3.out.keep hb45)).mono ?_
      rintro e w6 ⟨bl, rfl, hblw, hm6, hb6⟩
      have hbw6 := below_more hbw5 hb6
      have hba6 := below_alloc w6 (.cells #[.int .i64 E.length, .slice (some ⟨bl, 0, none⟩) (E.length * E.length) (E.length * E.length)] 141)
      have hst6 : SetAt (w6.alloc (.cells #[.int .i64 E.length, .slice (some ⟨bl, 0, none⟩) (E.length * E.length) (E.length * E.length)] 141)) w6.heap.size bl E.length (allS (exF E R) S E.length E.length) := ⟨by simp, by simp, hm6.keep hba6, by have := hm6.lt; omega⟩
      have HAK : Hid (Calls Tryz.prog 103 #[.pointer (some ⟨w6.heap.size, 0, none⟩), .slice aoT T.length capT, .slice ao E.length cap] (w6.alloc (.cells #[.int .i64 E.length, .slice (some ⟨bl, 0, none⟩) (E.length * E.length) (E.length * E.length)] 141)) fun e w' => ∃ r, e = .returned r ∧ SetAt w' w6.heap.size bl E.length (allS (exF E R) S E.length E.length ++ allU (pairB E (keepQ T E)) E.length) ∧ Only bl (w6.alloc (.cells #[.int .i64 E.length, .slice (some ⟨bl, 0, none⟩) (E.length * E.length) (E.length * E.length)] 141)) w') :=
        addKept_any T HEV.out.2.2.1 _ E hE HEV.out.2.2.2 _ _ w6.heap.size bl w5 _ (HEV.out.2.1.keep hbw5) (HEV.out.1.keep hbw5) (below_more hb6 hba6) hblw hst6
      clear hst6
      go_wp2_with fail
      refine HAK.out.mono ?_
      rw [← HKQ.out]
      rintro e w7 ⟨r7, rfl, hst7, hon7⟩
      have hbw7 : Below w.heap.size w w7 := (below_more hbw6 hba6).trans (hon7.below (by have := hbw5.size; omega) (below_more hbw6 hba6).size)
      generalize w6.heap.size = p6 at *
      have HST7 : Hid (SetAt w7 p6 bl E.length (kepQ T E x)) := hst7
      clear hst7 hon7 HAK hm6
      go_wp2_with fail
      refine (hasCircle_any E.length hE _ p6 bl w7 HST7.out).mono ?_
      rintro e w8 ⟨b8, rfl, hi8, hb8⟩
      have hbw8 := below_more hbw7 hb8
      have HQ8 : Hid (b8 = true ↔ Cyc E.length (kepQ T E x)) := hi8
      clear hi8
      cases b8
      · have HNQ : Hid (¬ Cyc E.length (kepQ T E x)) := fun h => by have := HQ8.out.2 h; cases this
        go_wp2_with fail
        refine (HM.out w8 hbw8).mono ?_
        rintro e w9 ⟨u9, rfl, hu9, hb9⟩
        have hbw9 := below_more hbw8 hb9
        obtain ⟨s0, s1, hmat9, _⟩ := (HST7.out.keep hb8).keep hb9
        have HMT : Hid (MatAt w9 bl E.length (kepQ T E x) ∧ MtAt w9 u9 MS) := ⟨hmat9, hu9⟩
        clear hmat9 hu9
        go_wp2_with fail
        refine (parted_any E.length hE MS HML.out.1 HML.out.2 _ bl _ w9 HMT.out.1 HMT.out.2).mono ?_
        rintro e w10 ⟨b10, rfl, hi10, hb10⟩
        have H10 : Hid (b10 = true ↔ Parts E.length MS (kepQ T E x)) := hi10
        clear hi10
        cases b10
        · have HS10 : Hid (¬ Parts E.length MS (kepQ T E x)) := fun h => by have := H10.out.2 h; cases this
          go_wp2_with fail
          go_ret
          exact ⟨4, rfl, .inr ⟨HNP.out, .inr ⟨HTB.out, .inr ⟨HNQ.out, .inl ⟨rfl, HS10.out⟩⟩⟩⟩, below_more hbw9 hb10⟩
        · go_wp2_with fail
          go_ret
          exact ⟨0, rfl, .inr ⟨HNP.out, .inr ⟨HTB.out, .inr ⟨HNQ.out, .inr ⟨fun h => h (H10.out.1 trivial), rfl⟩⟩⟩⟩, below_more hbw9 hb10⟩
      · go_wp2_with fail
        go_ret
        exact ⟨3, rfl, .inr ⟨HNP.out, .inr ⟨HTB.out, .inl ⟨rfl, HQ8.out.1 trivial⟩⟩⟩, hbw8⟩
    · go_wp2_with fail
      go_ret
      exact ⟨2, rfl, .inr ⟨HNP.out, .inl ⟨rfl, HTB.out⟩⟩, hbw5⟩
  · go_wp2_with fail
    go_ret
    exact ⟨1, rfl, .inl ⟨rfl, HP.out.1 trivial⟩, hbw4⟩


end Go.Proofs.YtomijmikkbhgmaaGreat

namespace Go.Proofs.YtomijmikkbhgmaaGreat
open Go.RowKit

set_option maxHeartbeats 1000000 in
theorem check_any (T : List (List Ins)) (fa : Bool) (c : List Atm) (v vt vc : Value) (w : World) (h : TestAt w v T fa c vt vc) :
    Calls Tryz.prog 60 #[v] w fun e w' => e = .returned (.tuple #[.int .i64 (chk T c).1, .int .i64 (chk T c).2]) ∧ Below w.heap.size w w' := by
  have HT : Hid (TestAt w v T fa c vt vc) := h
  obtain ⟨hv, _, _⟩ := h
  subst hv
  generalize hq : chk T c = q
  have HQ : Hid (chk T c = q) := hq
  clear hq
  go_enter Tryz.func60, Tryz.ntmps60
  go_wp2_with (go_at_call 43; refine (find_any T fa c _ vt vc _ (HT.out.keep (below_alloc _ _))).mono ?_; rw [HQ.out]; rintro e w3 ⟨rfl, hb3⟩; unfold fault2)
  go_quiet (fail)
  go_wp2_with fail
  go_ret2
  exact ⟨rfl, below_drewN ((below_more (below_alloc _ _) hb3).alloc (by have := hb3.size; simp at this; omega) _) _⟩

end Go.Proofs.YtomijmikkbhgmaaGreat

namespace Go.Proofs.YtomijmikkbhgmaaGreat
open Go.RowKit

/-- The events, where Check says OK. -/
def evsR (T : List (List Ins)) (c : List Atm) : List Evt := if (chk T c).1 == 0 then evsT T 0 else []
/-- How many candidates, where Check says OK. -/
def sizR (T : List (List Ins)) (c : List Atm) : Nat := if (chk T c).1 == 0 then cap2 (sizeN (evsT T 0)) else 0

theorem chk_zero {T : List (List Ins)} {c : List Atm} (h : ((chk T c).1 == 0) = true) : sizeB T c = true := by
  cases hs : sizeB T c
  · rw [chk_size hs] at h; simp at h
  · rfl

theorem ev4_nil (w : World) : Ev4At w (.slice none 0 0) [] := ⟨none, 0, 0, 0, rfl, fun h => absurd rfl h, fun _ => ⟨rfl, rfl⟩, fun k x h => by simp at h⟩

set_option maxHeartbeats 1000000 in
theorem eventsP_own (T : List (List Ins)) (fa : Bool) (c : List Atm) (v vt vc : Value) (w : World) (h : TestAt w v T fa c vt vc) :
    Calls Tryz.prog 61 #[v] w fun e w' => ∃ u, e = .returned (.tuple #[u, .int .i64 (chk T c).1]) ∧ w'.ownsRow w.heap.size 75 4 u (evsR T c).length ((evsR T c).flatMap ev4) ∧ Below w.heap.size w w' := by
  have HT : Hid (TestAt w v T fa c vt vc) := h
  obtain ⟨hv, _, _⟩ := h
  subst hv
  have HZ : Hid (((chk T c).1 == 0) = true → sizeB T c = true) := chk_zero
  have HE : Hid (evsR T c = if (chk T c).1 == 0 then evsT T 0 else []) := rfl
  generalize hq : chk T c = q at HZ HE
  have HQ : Hid (chk T c = q) := hq
  clear hq
  generalize evsR T c = E at HE
  go_enter Tryz.func61, Tryz.ntmps61
  go_wp2_with fail
  refine (find_any T fa c _ vt vc _ (HT.out.keep (below_alloc _ _))).mono ?_
  rw [HQ.out]
  rintro e w3 ⟨rfl, hb3⟩
  unfold fault2
  have hs3 : w.heap.size < w3.heap.size := by have := hb3.size; simp at this; omega
  have e0 := keep_cell hb3 (b := w.heap.size) (off := 0) (u := vt) (by simp)
  have hbw3 := below_more (below_alloc _ _) hb3
  clear hb3
  cases hz : q.1 == 0
  · have hz2 : (q.1 != 0) = true := by simp [bne, hz]
    have HE2 : Hid (E = []) := HE.out.trans (by rw [hz]; rfl)
    clear HE
    go_wp2_with fail
    go_quiet (fail)
    go_wp2_with fail
    go_ret2
    exact ⟨_, rfl, by rw [HE2.out]; exact World.ownsRow_nil _ _ _ _, below_drewN (hbw3.alloc hbw3.size _) _⟩
  · have hz2 : (q.1 != 0) = false := by simp [bne, hz]
    have HE2 : Hid (E = evsT T 0) := HE.out.trans (by rw [hz]; rfl)
    have hq0 : q.1 = 0 := by simpa using hz
    obtain ⟨h2, hL, _⟩ := sizeB_parts (HZ.out hz)
    have HL : Hid (lensB T = true) := hL
    have HQ0 : Hid (q.1 = 0) := hq0
    clear HE hL hq0
    go_wp2_with fail
    refine (list_own T vt _ (HT.out.ht.keep (hbw3.alloc hbw3.size _)) h2 HL.out).mono ?_
    rintro e w5 ⟨u, rfl, hu, hb5⟩
    go_wp2_with fail
    go_ret2
    exact ⟨u, by rw [HQ0.out]; rfl, by rw [HE2.out]; exact own_base hu (by have := hbw3.size; simp; omega), below_more (hbw3.alloc hbw3.size _) hb5⟩

set_option maxHeartbeats 1000000 in
theorem sizeP_any (T : List (List Ins)) (fa : Bool) (c : List Atm) (v vt vc : Value) (w : World) (h : TestAt w v T fa c vt vc) :
    Calls Tryz.prog 65 #[v] w fun e w' => e = .returned (.tuple #[.int .i64 (sizR T c : Nat), .int .i64 (chk T c).1]) ∧ Below w.heap.size w w' := by
  have HT : Hid (TestAt w v T fa c vt vc) := h
  obtain ⟨hv, _, _⟩ := h
  subst hv
  have HZ : Hid (((chk T c).1 == 0) = true → sizeB T c = true) := chk_zero
  have HE : Hid (sizR T c = if (chk T c).1 == 0 then cap2 (sizeN (evsT T 0)) else 0) := rfl
  generalize hq : chk T c = q at HZ HE
  have HQ : Hid (chk T c = q) := hq
  clear hq
  generalize sizR T c = E at HE
  go_enter Tryz.func65, Tryz.ntmps65
  go_wp2_with fail
  refine (find_any T fa c _ vt vc _ (HT.out.keep (below_alloc _ _))).mono ?_
  rw [HQ.out]
  rintro e w3 ⟨rfl, hb3⟩
  unfold fault2
  have hs3 : w.heap.size < w3.heap.size := by have := hb3.size; simp at this; omega
  have e0 := keep_cell hb3 (b := w.heap.size) (off := 0) (u := vt) (by simp)
  have hbw3 := below_more (below_alloc _ _) hb3
  clear hb3
  cases hz : q.1 == 0
  · have hz2 : (q.1 != 0) = true := by simp [bne, hz]
    have HE2 : Hid (E = 0) := HE.out.trans (by rw [hz]; rfl)
    clear HE
    go_wp2_with fail
    go_quiet (fail)
    go_wp2_with fail
    go_ret2
    exact ⟨by rw [HE2.out]; rfl, below_drewN (hbw3.alloc hbw3.size _) _⟩
  · have hz2 : (q.1 != 0) = false := by simp [bne, hz]
    have HE2 : Hid (E = cap2 (sizeN (evsT T 0))) := HE.out.trans (by rw [hz]; rfl)
    have hq0 : q.1 = 0 := by simpa using hz
    obtain ⟨h2, hL, _⟩ := sizeB_parts (HZ.out hz)
    have HL : Hid (lensB T = true) := hL
    have HQ0 : Hid (q.1 = 0) := hq0
    have hEl : (evsT T 0).length ≤ 96 := by have := evsT_len T 0 HL.out; omega
    clear HE hL hq0
    go_wp2_with fail
    refine (list_any T vt _ (HT.out.ht.keep (hbw3.alloc hbw3.size _)) h2 HL.out).mono ?_
    rintro e w5 ⟨u, rfl, hu, hb5⟩
    have hbw5 := below_more (hbw3.alloc hbw3.size _) hb5
    clear hb5
    go_wp2_with fail
    refine (countP_any _ hEl _ _ hu).mono ?_
    rintro e w6 ⟨rfl, hb6⟩
    go_wp2_with fail
    go_ret2
    exact ⟨by rw [HQ0.out, HE2.out]; rfl, below_more hbw5 hb6⟩

set_option maxHeartbeats 1000000 in
theorem sizeR_any (T : List (List Ins)) (fa : Bool) (c : List Atm) (v vt vc : Value) (w : World) (h : TestAt w v T fa c vt vc) :
    Calls Tryz.prog 66 #[v] w fun e w' => e = .returned (.tuple #[.int .i64 (sizR T c : Nat), .int .i64 (chk T c).1]) ∧ Below w.heap.size w w' := by
  have HT : Hid (TestAt w v T fa c vt vc) := h
  obtain ⟨hv, _, _⟩ := h
  subst hv
  have HZ : Hid (((chk T c).1 == 0) = true → sizeB T c = true) := chk_zero
  have HE : Hid (sizR T c = if (chk T c).1 == 0 then cap2 (sizeN (evsT T 0)) else 0) := rfl
  generalize hq : chk T c = q at HZ HE
  have HQ : Hid (chk T c = q) := hq
  clear hq
  generalize sizR T c = E at HE
  go_enter Tryz.func66, Tryz.ntmps66
  go_wp2_with fail
  refine (checkR_any T fa c _ vt vc _ (HT.out.keep (below_alloc _ _))).mono ?_
  rw [HQ.out]
  rintro e w3 ⟨rfl, hb3⟩
  have e0 := keep_cell hb3 (b := w.heap.size) (off := 0) (u := vt) (by simp)
  have e1 := keep_cell hb3 (b := w.heap.size) (off := 1) (u := .bool fa) (by simp)
  have e2 := keep_cell hb3 (b := w.heap.size) (off := 2) (u := vc) (by simp)
  have hbw3 := below_more (below_alloc _ _) hb3
  clear hb3
  cases hz : q.1 == 0
  · have hz2 : (q.1 != 0) = true := by simp [bne, hz]
    have HE2 : Hid (E = 0) := HE.out.trans (by rw [hz]; rfl)
    clear HE
    go_wp2_with fail
    go_ret2
    exact ⟨by rw [HE2.out]; rfl, hbw3⟩
  · have hz2 : (q.1 != 0) = false := by simp [bne, hz]
    have HE2 : Hid (E = cap2 (sizeN (evsT T 0))) := HE.out.trans (by rw [hz]; rfl)
    have hq0 : q.1 = 0 := by simpa using hz
    obtain ⟨h2, hL, _⟩ := sizeB_parts (HZ.out hz)
    have HL : Hid (lensB T = true) := hL
    have HQ0 : Hid (q.1 = 0) := hq0
    have hEl : (evsT T 0).length ≤ 96 := by have := evsT_len T 0 HL.out; omega
    clear HE hL hq0
    go_wp2_with fail
    refine (events_any T fa c _ vt vc _ (HT.out.keep hbw3) h2 HL.out).mono ?_
    rintro e w5 ⟨u, rfl, hu, hb5⟩
    have hbw5 := below_more hbw3 hb5
    clear hb5
    go_wp2_with fail
    refine (size_any _ hEl _ _ hu).mono ?_
    rintro e w6 ⟨rfl, hb6⟩
    go_wp2_with fail
    go_ret2
    exact ⟨by rw [HQ0.out, HE2.out]; rfl, below_more hbw5 hb6⟩

end Go.Proofs.YtomijmikkbhgmaaGreat

namespace Go.Proofs.YtomijmikkbhgmaaGreat
open Go.RowKit

theorem lens_all {T : List (List Ins)} (h : lensB T = true) : ∀ l ∈ T, l.length ≤ 12 := by
  induction T with
  | nil => intro l hl; cases hl
  | cons a T ih =>
    simp only [lensB, Bool.and_eq_true, decide_eq_true_eq] at h
    intro l hl
    rcases List.mem_cons.1 hl with rfl | hl
    · exact h.1
    · exact ih h.2 l hl

/-- What is so where Check says OK. -/
structure Fits (T : List (List Ins)) : Prop where
  short : Short T
  lens : lensB T = true
  el : (evsT T 0).length ≤ 96
  locs : ∀ y ∈ evsT T 0, locB y.loc = true

theorem fits_of {T : List (List Ins)} {c : List Atm} (h : ((chk T c).1 == 0) = true) : Fits T := by
  obtain ⟨h2, hL, _⟩ := sizeB_parts (chk_zero h)
  have hel := evsT_len T 0 hL
  exact ⟨⟨h2, lens_all hL⟩, hL, by omega, evsT_locs (chk_locs h)⟩

/-- What Judge answers. -/
def JOut (T : List (List Ins)) (c : List Atm) (x : Exe) (r er : Int) : Prop :=
  ((chk T c).1 ≠ 0 ∧ r = 0 ∧ er = (chk T c).1) ∨ ((chk T c).1 = 0 ∧ ((exeB (evsT T 0) x = false ∧ r = 0 ∧ er = 7) ∨
    (exeB (evsT T 0) x = true ∧ er = 0 ∧ JudIs (Cyc (evsT T 0).length (cohA (evsT T 0) x)) (tornB (evsT T 0) x) (Cyc (evsT T 0).length (kepA T (evsT T 0) x)) (¬ Parts (evsT T 0).length (mtL (thoL 2 (evsT T 0) 0) (thoL 3 (evsT T 0) 0) (thoL 4 (evsT T 0) 0)) (kepA T (evsT T 0) x)) r)))

theorem JOut.one {T : List (List Ins)} {c : List Atm} {x : Exe} {r er r' er' : Int} (h : JOut T c x r er) (k : JOut T c x r' er') : r = r' ∧ er = er' := by
  rcases h with ⟨h1, h2, h3⟩ | ⟨h1, ⟨h2, h3, h4⟩ | ⟨h2, h3, h4⟩⟩ <;>
  rcases k with ⟨k1, k2, k3⟩ | ⟨k1, ⟨k2, k3, k4⟩ | ⟨k2, k3, k4⟩⟩ <;>
  first
    | exact absurd k1 h1
    | exact absurd h1 k1
    | exact ⟨h2.trans k2.symm, h3.trans k3.symm⟩
    | exact ⟨h3.trans k3.symm, h4.trans k4.symm⟩
    | (rw [h2] at k2; cases k2; done)
    | exact ⟨h4.one k4, h3.trans k3.symm⟩

set_option maxRecDepth 20000 in
set_option maxHeartbeats 1000000 in
theorem judgeP_any (T : List (List Ins)) (fa : Bool) (c : List Atm) (vt vc : Value) (x : Exe) (vf vo : Value) (w : World) (h : TestAt w (.agg #[vt, .bool fa, vc]) T fa c vt vc) (hx : ExeAt w vf vo x) :
    Calls Tryz.prog 30 #[.agg #[vt, .bool fa, vc], .agg #[vf, vo]] w fun e w' => ∃ r er : Int, e = .returned (.tuple #[.int .i64 r, .int .i64 er]) ∧ JOut T c x r er ∧ Below w.heap.size w w' := by
  have HT : Hid (TestAt w (.agg #[vt, .bool fa, vc]) T fa c vt vc ∧ ExeAt w vf vo x) := ⟨h, hx⟩
  have HFT : Hid (((chk T c).1 == 0) = true → Fits T) := fits_of
  have HMT : Hid (((chk T c).1 == 0) = true → Mts (evsT T 0)) := mts_of
  have HJ : Hid (∀ r er, JOut T c x r er ↔ ((chk T c).1 ≠ 0 ∧ r = 0 ∧ er = (chk T c).1) ∨ ((chk T c).1 = 0 ∧ ((exeB (evsT T 0) x = false ∧ r = 0 ∧ er = 7) ∨ (exeB (evsT T 0) x = true ∧ er = 0 ∧ JudIs (Cyc (evsT T 0).length (cohA (evsT T 0) x)) (tornB (evsT T 0) x) (Cyc (evsT T 0).length (kepA T (evsT T 0) x)) (¬ Parts (evsT T 0).length (mtL (thoL 2 (evsT T 0) 0) (thoL 3 (evsT T 0) 0) (thoL 4 (evsT T 0) 0)) (kepA T (evsT T 0) x)) r)))) := fun _ _ => Iff.rfl
  generalize JOut T c x = J at HJ ⊢
  obtain ⟨aof, capf, hvf⟩ := hx.f.form
  obtain ⟨aoo, bo, offo, capo, hvo, _⟩ := hx.o
  subst hvf hvo
  generalize hq : chk T c = q at HFT HMT HJ
  have HQ : Hid (chk T c = q) := hq
  clear hq h hx
  go_enter Tryz.func30, Tryz.ntmps30
  go_wp2_with fail
  have hba := below_two w (.cells #[vt, .bool fa, vc] 25) (.cells #[.slice aof x.from'.length capf, .slice aoo x.order.length capo] 29)
  refine (find_any T fa c _ vt vc _ (HT.out.1.keep hba)).mono ?_
  rw [HQ.out]
  rintro e w3 ⟨rfl, hb3⟩
  unfold fault2
  have hbw3 := below_more hba hb3
  have t0 := keep_cell hb3 (b := w.heap.size) (off := 0) (u := vt) (by simp)
  have x0 := keep_cell hb3 (b := w.heap.size + 1) (off := 0) (u := .slice aof x.from'.length capf) (by simp)
  have x1 := keep_cell hb3 (b := w.heap.size + 1) (off := 1) (u := .slice aoo x.order.length capo) (by simp)
  have s0 := World.block_lt_of_cell? _ _ t0
  have s1 := World.block_lt_of_cell? _ _ x0
  simp only at s0 s1
  clear hb3
  cases hz : q.1 == 0
  · have hz2 : (q.1 != 0) = true := by simp [bne, hz]
    have HM : Hid (J 0 q.1) := (HJ.out 0 q.1).2 (.inl ⟨by simpa using hz, rfl, rfl⟩)
    clear HJ
    go_wp2_with fail
    go_quiet (fail)
    go_wp2_with fail
    go_ret2
    exact ⟨_, _, rfl, HM.out, below_drewN (hbw3.alloc hbw3.size _) _⟩
  · have hz2 : (q.1 != 0) = false := by simp [bne, hz]
    have hq0 : q.1 = 0 := by simpa using hz
    have HF : Hid (Fits T) := HFT.out hz
    have HJ2 : Hid (∀ r er, ((exeB (evsT T 0) x = false ∧ r = 0 ∧ er = 7) ∨ (exeB (evsT T 0) x = true ∧ er = 0 ∧ JudIs (Cyc (evsT T 0).length (cohA (evsT T 0) x)) (tornB (evsT T 0) x) (Cyc (evsT T 0).length (kepA T (evsT T 0) x)) (¬ Parts (evsT T 0).length (mtL (thoL 2 (evsT T 0) 0) (thoL 3 (evsT T 0) 0) (thoL 4 (evsT T 0) 0)) (kepA T (evsT T 0) x)) r)) → J r er) := fun r er h => (HJ.out r er).2 (.inr ⟨hq0, h⟩)
    clear HJ hq0
    have hbw4 := hbw3.alloc hbw3.size (.cells #[.int .i64 q.1, .int .i64 q.2] 84)
    have hb34 := below_alloc w3 (.cells #[.int .i64 q.1, .int .i64 q.2] 84)
    go_wp2_with fail
    refine (list_cap T vt _ (HT.out.1.ht.keep hbw4) HF.out.short.t4 HF.out.lens).mono ?_
    generalize hEE : evsT T 0 = E at HJ2
    have HEE : Hid (E = evsT T 0 ∧ E.length ≤ 96 ∧ (∀ y ∈ E, locB y.loc = true) ∧ EvsIn T E ∧ Mts E) := ⟨hEE.symm, by rw [← hEE]; exact HF.out.el, by rw [← hEE]; exact HF.out.locs, by rw [← hEE]; exact evsIn_T T, by rw [← hEE]; exact HMT.out hz⟩
    rintro e w5 ⟨u5, rfl, hu5, hb5⟩
    have HU5 : Hid (Ev4Cap w5 u5 E) := hu5
    have hbw5 := below_more hbw4 hb5
    have hb35 := below_more hb34 hb5
    replace t0 := keep_cell hb35 t0
    replace x0 := keep_cell hb35 x0
    replace x1 := keep_cell hb35 x1
    clear hu5 hb5 hb34 hb35 hbw4 hEE hbw3
    go_wp2_with fail
    refine (has_any E HEE.out.2.1 x _ _ _ w5 HU5.out.at' (HT.out.2.keep hbw5)).mono ?_
    generalize hXB : exeB E x = XB at HJ2
    have HXB : Hid (exeB E x = XB) := hXB
    clear hXB
    rintro e w6 ⟨rfl, hb6⟩
    have hbw6 := below_more hbw5 hb6
    cases XB
    · have HM : Hid (J 0 7) := HJ2.out 0 7 (.inl ⟨rfl, rfl, rfl⟩)
      clear HJ2
      go_wp2_with fail
      go_ret2
      exact ⟨_, _, rfl, HM.out, hbw6⟩
    · replace t0 := keep_cell hb6 t0
      replace x0 := keep_cell hb6 x0
      replace x1 := keep_cell hb6 x1
      have HOF : Hid (Calls Tryz.prog 54 #[vt, u5, .agg #[.slice aof x.from'.length capf, .slice aoo x.order.length capo]] w6 fun e w' => ∃ r : Int, e = .returned (.int .i64 r) ∧ J r 0 ∧ Below w6.heap.size w6 w') := by
        obtain ⟨hE, hl, hloc, hin, hM⟩ := HEE.out
        have hx := isEx_of HXB.out
        have hrk := hx.ranks hl hloc
        obtain ⟨j1, j2, j3, j4⟩ := judge_same' hE hl hloc hx
        have hfl : x.from'.length ≤ 96 := by have := hx.f; have := rdsX_len E 0; omega
        refine (of_any T HF.out.short vt E hl hin hM x hfl (by have := hx.o3; omega) (hx.xok hl hloc).l96 hrk.bound u5 _ _ w6 (HT.out.1.ht.keep hbw6) (HU5.out.keep hb6) (HT.out.2.keep hbw6)).mono ?_
        rintro e w' ⟨r, he, hj, hb⟩
        exact ⟨r, he, HJ2.out r 0 (.inr ⟨rfl, rfl, hj.congr' j1 j2 j3 j4⟩), hb⟩
      clear HJ2
      go_wp2_with fail
      refine HOF.out.mono ?_
      rintro e w7 ⟨r, rfl, hj, hb7⟩
      have HM : Hid (J r 0) := hj
      clear hj
      go_wp2_with fail
      go_ret2
      exact ⟨_, _, rfl, HM.out, below_more hbw6 hb7⟩

set_option maxRecDepth 20000 in
set_option maxHeartbeats 1000000 in
theorem judgeR_any (T : List (List Ins)) (fa : Bool) (c : List Atm) (vt vc : Value) (x : Exe) (vf vo : Value) (w : World) (h : TestAt w (.agg #[vt, .bool fa, vc]) T fa c vt vc) (hx : ExeC w vf vo x) :
    Calls Tryz.prog 31 #[.agg #[vt, .bool fa, vc], .agg #[vf, vo]] w fun e w' => ∃ r er : Int, e = .returned (.tuple #[.int .i64 r, .int .i64 er]) ∧ JOut T c x r er ∧ Below w.heap.size w w' := by
  have HT : Hid (TestAt w (.agg #[vt, .bool fa, vc]) T fa c vt vc ∧ ExeC w vf vo x) := ⟨h, hx⟩
  have HFT : Hid (((chk T c).1 == 0) = true → Fits T) := fits_of
  have HMT : Hid (((chk T c).1 == 0) = true → Mts (evsT T 0)) := mts_of
  have HJ : Hid (∀ r er, JOut T c x r er ↔ ((chk T c).1 ≠ 0 ∧ r = 0 ∧ er = (chk T c).1) ∨ ((chk T c).1 = 0 ∧ ((exeB (evsT T 0) x = false ∧ r = 0 ∧ er = 7) ∨ (exeB (evsT T 0) x = true ∧ er = 0 ∧ JudIs (Cyc (evsT T 0).length (cohA (evsT T 0) x)) (tornB (evsT T 0) x) (Cyc (evsT T 0).length (kepA T (evsT T 0) x)) (¬ Parts (evsT T 0).length (mtL (thoL 2 (evsT T 0) 0) (thoL 3 (evsT T 0) 0) (thoL 4 (evsT T 0) 0)) (kepA T (evsT T 0) x)) r)))) := fun _ _ => Iff.rfl
  generalize JOut T c x = J at HJ ⊢
  obtain ⟨aof, capf, hvf⟩ := hx.f.form
  obtain ⟨aoo, bo, offo, capo, hso⟩ := hx.o
  have hvo := hso.hv
  subst hvf hvo
  generalize hq : chk T c = q at HFT HMT HJ
  have HQ : Hid (chk T c = q) := hq
  clear hq h hx hso
  go_enter Tryz.func31, Tryz.ntmps31
  go_wp2_with fail
  have hba := below_two w (.cells #[vt, .bool fa, vc] 25) (.cells #[.slice aof x.from'.length capf, .slice aoo x.order.length capo] 29)
  refine (checkR_any T fa c _ vt vc _ (HT.out.1.keep hba)).mono ?_
  rw [HQ.out]
  rintro e w3 ⟨rfl, hb3⟩
  have hbw3 := below_more hba hb3
  have t0 := keep_cell hb3 (b := w.heap.size) (off := 0) (u := vt) (by simp)
  have t1 := keep_cell hb3 (b := w.heap.size) (off := 1) (u := .bool fa) (by simp)
  have t2 := keep_cell hb3 (b := w.heap.size) (off := 2) (u := vc) (by simp)
  have x0 := keep_cell hb3 (b := w.heap.size + 1) (off := 0) (u := .slice aof x.from'.length capf) (by simp)
  have x1 := keep_cell hb3 (b := w.heap.size + 1) (off := 1) (u := .slice aoo x.order.length capo) (by simp)
  clear hb3
  cases hz : q.1 == 0
  · have hz2 : (q.1 != 0) = true := by simp [bne, hz]
    have HM : Hid (J 0 q.1) := (HJ.out 0 q.1).2 (.inl ⟨by simpa using hz, rfl, rfl⟩)
    clear HJ
    go_wp2_with fail
    go_ret2
    exact ⟨_, _, rfl, HM.out, hbw3⟩
  · have hz2 : (q.1 != 0) = false := by simp [bne, hz]
    have hq0 : q.1 = 0 := by simpa using hz
    have HF : Hid (Fits T) := HFT.out hz
    have HJ2 : Hid (∀ r er, ((exeB (evsT T 0) x = false ∧ r = 0 ∧ er = 7) ∨ (exeB (evsT T 0) x = true ∧ er = 0 ∧ JudIs (Cyc (evsT T 0).length (cohA (evsT T 0) x)) (tornB (evsT T 0) x) (Cyc (evsT T 0).length (kepA T (evsT T 0) x)) (¬ Parts (evsT T 0).length (mtL (thoL 2 (evsT T 0) 0) (thoL 3 (evsT T 0) 0) (thoL 4 (evsT T 0) 0)) (kepA T (evsT T 0) x)) r)) → J r er) := fun r er h => (HJ.out r er).2 (.inr ⟨hq0, h⟩)
    clear HJ hq0
    go_wp2_with fail
    refine (events_any T fa c _ vt vc w3 (HT.out.1.keep hbw3) HF.out.short.t4 HF.out.lens).mono ?_
    generalize hEE : evsT T 0 = E at HJ2
    have HEE : Hid (E = evsT T 0 ∧ E.length ≤ 96 ∧ (∀ y ∈ E, locB y.loc = true) ∧ EvsIn T E ∧ Mts E) := ⟨hEE.symm, by rw [← hEE]; exact HF.out.el, by rw [← hEE]; exact HF.out.locs, by rw [← hEE]; exact evsIn_T T, by rw [← hEE]; exact HMT.out hz⟩
    rintro e w5 ⟨u5, rfl, hu5, hb5⟩
    have HU5 : Hid (Ev9At w5 u5 E) := hu5
    have hbw5 := below_more hbw3 hb5
    replace t0 := keep_cell hb5 t0
    replace t1 := keep_cell hb5 t1
    replace t2 := keep_cell hb5 t2
    replace x0 := keep_cell hb5 x0
    replace x1 := keep_cell hb5 x1
    clear hu5 hb5 hEE hbw3
    go_wp2_with fail
    refine (execution_any E HEE.out.2.1 x _ _ _ w5 HU5.out (HT.out.2.at'.keep hbw5)).mono ?_
    generalize hXB : exeB E x = XB at HJ2
    have HXB : Hid (exeB E x = XB) := hXB
    clear hXB
    rintro e w6 ⟨rfl, hb6⟩
    have hbw6 := below_more hbw5 hb6
    cases XB
    · have HM : Hid (J 0 7) := HJ2.out 0 7 (.inl ⟨rfl, rfl, rfl⟩)
      clear HJ2
      go_wp2_with fail
      go_ret2
      exact ⟨_, _, rfl, HM.out, hbw6⟩
    · replace t0 := keep_cell hb6 t0
      replace t1 := keep_cell hb6 t1
      replace t2 := keep_cell hb6 t2
      replace x0 := keep_cell hb6 x0
      replace x1 := keep_cell hb6 x1
      have HOF : Hid (Calls Tryz.prog 56 #[.agg #[vt, .bool fa, vc], u5, .agg #[.slice aof x.from'.length capf, .slice aoo x.order.length capo]] w6 fun e w' => ∃ r : Int, e = .returned (.int .i64 r) ∧ J r 0 ∧ Below w6.heap.size w6 w') := by
        obtain ⟨hE, hl, hloc, hin, hM⟩ := HEE.out
        have hx := isEx_of HXB.out
        refine (judge_any T HF.out.short fa c vt vc E hl hin hloc hM x (hx.xok hl hloc) u5 _ _ w6 (HT.out.1.keep hbw6) (HU5.out.keep hb6) (HT.out.2.keep hbw6)).mono ?_
        rintro e w' ⟨r, he, hj, hb⟩
        exact ⟨r, he, HJ2.out r 0 (.inr ⟨rfl, rfl, hj⟩), hb⟩
      clear HJ2
      go_wp2_with fail
      refine HOF.out.mono ?_
      rintro e w7 ⟨r, rfl, hj, hb7⟩
      have HM : Hid (J r 0) := hj
      clear hj
      go_wp2_with fail
      go_ret2
      exact ⟨_, _, rfl, HM.out, below_more hbw6 hb7⟩

end Go.Proofs.YtomijmikkbhgmaaGreat

namespace Go.Proofs.YtomijmikkbhgmaaGreat
open Go.RowKit

/-- copied's own memory: the boxed execution, the result, the copy so far in block B. -/
structure CpSt (w wr : World) (vf vo : Value) (B : Nat) (F : List Int) (uf V : Value) (L : List (List Int)) (vs : List Value) : Prop where
  below : Below w.heap.size w wr
  hB : B = w.heap.size + 2
  b1 : wr.cell? ⟨w.heap.size, 1, none⟩ = some vo
  r0 : wr.cell? ⟨w.heap.size + 1, 0, none⟩ = some (.slice none 0 0)
  r1 : wr.cell? ⟨w.heap.size + 1, 1, none⟩ = some (.slice none 0 0)
  q0 : wr.frozen? ⟨w.heap.size + 1, 0, none⟩ = false
  q1 : wr.frozen? ⟨w.heap.size + 1, 1, none⟩ = false
  f0 : wr.cell? ⟨B, 0, none⟩ = some uf
  f1 : wr.cell? ⟨B, 1, none⟩ = some V
  z1 : wr.frozen? ⟨B, 1, none⟩ = false
  lb : B < wr.heap.size
  fr : IntAt wr uf F
  fb : ∀ g, uf.ownBlock = some g → B < g ∧ g < wr.heap.size ∧ V.ownBlock ≠ some g
  ll : LL wr (B + 1) V L vs

theorem CpSt.step {w wr w1 w2 : World} {vf vo : Value} {B : Nat} {F : List Int} {uf V V' : Value} {L : List (List Int)} {vs : List Value} (h : CpSt w wr vf vo B F uf V L vs)
    (hb1 : Below wr.heap.size wr w1) {l : List Int} {u : Value} {o : Obj} (hu : IntCap w1 u l) (hub : ∀ b, u.ownBlock = some b → wr.heap.size ≤ b ∧ b < w1.heap.size)
    (hown : w2.ownsRow (B + 1) 26 1 V' (L.length + 1) (vs ++ [u])) (hg : (w1.alloc o).grownBy w2 V.ownBlock) (hap : ∀ g, V'.ownBlock = some g → V.ownBlock = some g ∨ w1.heap.size + 1 ≤ g) :
    CpSt w (w2.setCell ⟨B, 1, none⟩ V') vf vo B F uf V' (L ++ [l]) (vs ++ [u]) := by
  have hB := h.hB
  have hBl := h.lb
  have hs1 := hb1.size
  have hVb : ∀ g, V.ownBlock = some g → B + 1 ≤ g ∧ g < wr.heap.size := fun g hg => h.ll.own.lt g hg
  have hs2 : w1.heap.size + 1 ≤ w2.heap.size := by have := hg.size; simpa using this
  have key2 : ∀ b, b < wr.heap.size → V.ownBlock ≠ some b → w2.heap[b]? = wr.heap[b]? := fun b hb hne => by
    rw [hg.block b (by simp; omega) (fun e => hne e.symm), Below.heap_alloc _ _ _ (by omega), hb1.block b hb]
  have key : ∀ b, b < wr.heap.size → V.ownBlock ≠ some b → b ≠ B → (w2.setCell ⟨B, 1, none⟩ V').heap[b]? = wr.heap[b]? := fun b hb hne hnB => by
    rw [Below.heap_setCell _ _ _ _ hnB, key2 b hb hne]
  have kc : ∀ b off x, b < B → wr.cell? ⟨b, off, none⟩ = some x → (w2.setCell ⟨B, 1, none⟩ V').cell? ⟨b, off, none⟩ = some x := fun b off x hb hc =>
    cell_heap (key b (by omega) (fun e => by have := (hVb b e).1; omega) (by omega)) hc
  have kf : ∀ b off, b < B → (w2.setCell ⟨B, 1, none⟩ V').frozen? ⟨b, off, none⟩ = wr.frozen? ⟨b, off, none⟩ := fun b off hb =>
    World.frozen?_of_block (w := wr) (key b (by omega) (fun e => by have := (hVb b e).1; omega) (by omega))
  have hBk : w2.heap[B]? = wr.heap[B]? := key2 B hBl (fun e => by have := (hVb B e).1; omega)
  have f0 : w2.cell? ⟨B, 0, none⟩ = some uf := cell_heap hBk h.f0
  have f1 : w2.cell? ⟨B, 1, none⟩ = some V := cell_heap hBk h.f1
  have z1 : w2.frozen? ⟨B, 1, none⟩ = false := (World.frozen?_of_block (w := wr) hBk).trans h.z1
  have hll : LL w2 (B + 1) V' (L ++ [l]) (vs ++ [u]) := (h.ll.keep hb1).snoc hu (fun b hb => ⟨by have := (hub b hb).1; omega, (hub b hb).2, fun e => by have := (hVb b e).2; have := (hub b hb).1; omega⟩) hown hg hap
  have hbel : Below w.heap.size w (w2.setCell ⟨B, 1, none⟩ V') := by
    refine Below.setCell ?_ (by simp; omega) _
    exact Below.grown ((below_more h.below hb1).alloc (below_more h.below hb1).size _) hg (by have := h.below.size; simp; omega) (fun kk e => by have := (hVb kk e).1; omega)
  refine ⟨hbel, hB, kc _ _ _ (by omega) h.b1, kc _ _ _ (by omega) h.r0, kc _ _ _ (by omega) h.r1, (kf _ _ (by omega)).trans h.q0, (kf _ _ (by omega)).trans h.q1, ?_, ?_, ?_, by simp [World.setCell]; omega, ?_, fun g hg' => ?_, ?_⟩
  · simp [go_sem, f0]
  · simp [go_sem, f1]
  · simp [go_sem, z1]
  · exact h.fr.other (fun b hb => key b (h.fb b hb).2.1 (h.fb b hb).2.2 (by have := (h.fb b hb).1; omega))
  · obtain ⟨a1, a2, a3⟩ := h.fb g hg'
    refine ⟨a1, by simp [World.setCell]; omega, fun e => ?_⟩
    rcases hap g e with e' | e'
    · exact a3 e'
    · omega
  · exact hll.other (by simp [World.setCell]) (fun b hb1 _ => Below.heap_setCell _ _ _ _ (by simp; omega))

end Go.Proofs.YtomijmikkbhgmaaGreat

namespace Go.Proofs.YtomijmikkbhgmaaGreat
open Go.ChangeShapes Go.WideShapes Go.ChangeAt Go.RowKit Go.Deep

theorem Tryz.cellsExec : Tryz.prog.cellsOf 29 = 2 := by kernel_rfl
theorem Tryz.cellsInts : Tryz.prog.cellsOf 26 = 1 := by kernel_rfl
section
variable {H : Type} {enc : TypeId × Value → H} {w : World}

end

end Go.Proofs.YtomijmikkbhgmaaGreat

namespace Go.Proofs.YtomijmikkbhgmaaGreat
open Go.RowKit

end Go.Proofs.YtomijmikkbhgmaaGreat
