import Derived.Test.YtomijmikkbhgmaaGreatT7
import Derived.Test.YtomijmikkbhgmaaGreatT4
import Derived.Test.YtomijmikkbhgmaaGreatT1
import Derived.Deep.CutRange
import Derived.Deep.RegionWith
namespace Go.Proofs.YtomijmikkbhgmaaGreat
open Go.RowKit

/-- A row of numbers of the call's own, in block bT; the rest of the world stays. -/
structure Row (w wr : World) (bT n : Nat) (g : Nat → Int) : Prop where
  hb : Below w.heap.size w wr
  row : wr.rowIs bT 3 n (fun i => .int .i64 (g i))
  n1 : w.heap.size ≤ bT

theorem Row.set {w wr : World} {bT n : Nat} {g h : Nat → Int} (hr : Row w wr bT n g) (i : Nat) (x : Int) (he : ∀ j, j < n → (if j = i then x else g j) = h j) : Row w (wr.setCell ⟨bT, i, none⟩ (.int .i64 x)) bT n h := by
  refine ⟨hr.hb.setCell hr.n1 _, (hr.row.set i _).congr fun j hj => ?_, hr.n1⟩
  rw [← he j hj]
  by_cases e : j = i
  · simp [e]
  · simp [e]
theorem Row.congr {w wr : World} {bT n : Nat} {g h : Nat → Int} (hr : Row w wr bT n g) (he : ∀ j, j < n → g j = h j) : Row w wr bT n h :=
  ⟨hr.hb, hr.row.congr fun j hj => by rw [he j hj], hr.n1⟩
theorem Row.alloc {w wr : World} {bT n : Nat} {g : Nat → Int} (h : Row w wr bT n g) (o : Obj) : Row w (wr.alloc o) bT n g := ⟨h.hb.alloc h.hb.size _, h.row.alloc _, h.n1⟩
theorem Row.drew {w wr : World} {bT n : Nat} {g : Nat → Int} (h : Row w wr bT n g) : Row w wr.drew bT n g := ⟨h.hb.drew, h.row, h.n1⟩

theorem Row.drewN {w wr : World} {bT n : Nat} {g : Nat → Int} (h : Row w wr bT n g) (k : Nat) : Row w (wr.drewN k) bT n g := ⟨⟨h.hb.os, h.hb.tape, h.hb.output, h.hb.size, h.hb.block⟩, h.row, h.n1⟩

/-- What is counted, when from f the arrows to those below t are. -/
def inG (A : List (Int × Int)) (f t j : Nat) : Int := if j < t then (inTo A (f + 1) j : Nat) else (inTo A f j : Nat)

theorem inG_ge (A : List (Int × Int)) (f t : Nat) : inG A f t t = (inTo A f t : Nat) := by unfold inG; rw [if_neg (by omega)]

set_option maxRecDepth 20000 in
set_option maxHeartbeats 2000000 in
theorem countInto_any (n : Nat) (hn : n ≤ 96) (A : List (Int × Int)) (p bl : Nat) (w : World) (h : SetAt w p bl n A) :
    Calls Tryz.prog 141 #[.pointer (some ⟨p, 0, none⟩)] w fun e w' => e = .returned (.slice (some ⟨w.heap.size, 0, none⟩) n n) ∧ Row w w' w.heap.size n (fun j => (inTo A n j : Nat)) := by
  have HS : Hid (SetAt w p bl n A) := h
  obtain ⟨c0, c1, _, _⟩ := h
  have hsq := sq_le hn
  have hmk := run_make_row' (P := Tryz.prog) 26 3 (.int .i64 0) 8 Tryz.underlying26 Tryz.info3 rfl .i64 .i64 n (by omega) (by omega)
  have HG0 : Hid (Row w (w.alloc (.cells (madeCells #[.int .i64 0] n) 3)) w.heap.size n (inG A 0 0)) := ⟨below_alloc _ _, World.rowIs_made w (.int .i64 0) n 3, Nat.le_refl _⟩
  go_enter Tryz.func141, Tryz.ntmps141
  go_wp2_with fail
  clear hmk c0 c1
  go_loopw [4] (fun i wr => ∃ k : Nat, k ≤ n ∧ i = .int .i64 k ∧ Hid (Row w wr w.heap.size n (inG A k 0))) (fun i _ => n - (intOf i).toNat)
  case atStart => exact ⟨0, Nat.zero_le _, rfl, HG0.out⟩
  case round =>
    clear HG0
    obtain ⟨k, hk, rfl, hg⟩ := hrel
    obtain ⟨c0, c1, _, _⟩ := HS.out.keep hg.out.hb
    have HG := hg
    by_cases hlt : k < n
    · have hkI : (k : Int) < (n : Int) := by omega
      clear hg
      go_wp2_with fail
      clear c0 c1
      go_loopw [5] (fun i wr => ∃ t : Nat, t ≤ n ∧ i = .int .i64 t ∧ Hid (Row w wr w.heap.size n (inG A k t))) (fun i _ => n - (intOf i).toNat)
      case atStart => exact ⟨0, Nat.zero_le _, rfl, HG.out⟩
      case round =>
        clear HG
        obtain ⟨t, ht, rfl, hg⟩ := hrel
        obtain ⟨c0, c1, hm, _⟩ := HS.out.keep hg.out.hb
        have HG := hg
        by_cases htn : t < n
        · have htI : (t : Int) < (n : Int) := by omega
          have hq : k * n + t < n * n := by
            have : (k + 1) * n ≤ n * n := Nat.mul_le_mul_right n hlt
            rw [Nat.add_mul] at this; omega
          have e1 : (k : Int) * (n : Int) = ((k * n : Nat) : Int) := by simp
          have hqI : ((k * n : Nat) : Int) + (t : Int) = ((k * n + t : Nat) : Int) := by omega
          have r0 := hm.cell hlt htn
          have t0 := hg.out.row.cell htn
          have z0 := hg.out.row.frozen t
          have s0 := hg.out.row.lt
          rw [inG_ge] at t0
          have hle := inTo_le A k t
          generalize k * n + t = q at hq hqI r0
          generalize k * n = m at e1 hqI
          generalize n * n = N at hq hsq c1
          have hqN : (q : Int) < (N : Int) := by omega
          have hm0 : (m : Int) ≤ 9216 := by omega
          have hw1 : IntKind.i64.wrap (m : Int) = (m : Int) := by rw [IntKind.wrap_i64]; omega
          have hw2 : IntKind.i64.wrap (q : Int) = (q : Int) := by rw [IntKind.wrap_i64]; omega
          clear hg hm
          cases hab : arwB A k t
          · rw [hab] at r0
            have HG2 : Hid (Row w wr w.heap.size n (inG A k (t + 1))) := HG.out.congr fun j hj => by
              unfold inG
              by_cases e : j = t
              · subst e; rw [if_neg (by omega), if_pos (by omega), inTo_no hab]
              · by_cases e2 : j < t
                · rw [if_pos e2, if_pos (by omega)]
                · rw [if_neg e2, if_neg (by omega)]
            clear HG
            go_wp2_with fail
            go_quiet (fail)
            go_wp2_with fail
            go_roundw
            case measure => simp [intOf]; omega
            case rel => exact ⟨t + 1, by omega, by go_num, HG2.out.drewN _⟩
          · rw [hab] at r0
            have HG2 : Hid (∀ nq, Row w ((wr.drewN nq).setCell ⟨w.heap.size, t, none⟩ (.int .i64 ((inTo A k t : Nat) + 1))) w.heap.size n (inG A k (t + 1))) := fun nq => (HG.out.drewN nq).set t _ fun j hj => by
              unfold inG
              by_cases e : j = t
              · subst e; rw [if_pos rfl, if_pos (by omega), inTo_yes hab]; simp
              · rw [if_neg e]
                by_cases e2 : j < t
                · rw [if_pos e2, if_pos (by omega)]
                · rw [if_neg e2, if_neg (by omega)]
            clear HG
            generalize inTo A k t = c at t0 HG2 hle
            go_wp2_with fail
            go_quiet (fail)
            go_wp2_with fail
            go_roundw
            case measure => simp [intOf]; omega
            case rel => exact ⟨t + 1, by omega, by go_num, HG2.out _⟩
        · have HG2 : Hid (Row w wr w.heap.size n (inG A (k + 1) 0)) := HG.out.congr fun j hj => by unfold inG; rw [if_pos (by omega), if_neg (by omega)]
          have htI : (n : Int) ≤ (t : Int) := by omega
          clear HG hg hm
          go_wp2_with fail
          go_roundw
          case measure => simp [intOf]; omega
          case rel => exact ⟨k + 1, by omega, by go_num, HG2.out⟩
    · have hkI : (n : Int) ≤ (k : Int) := by omega
      have HG2 : Hid (Row w wr w.heap.size n (fun j => (inTo A n j : Nat))) := HG.out.congr fun j hj => by
        have : k = n := by omega
        subst this
        unfold inG; rw [if_neg (by omega)]
      clear HG hg
      go_wp2_with fail
      go_ret
      exact ⟨rfl, HG2.out⟩

end Go.Proofs.YtomijmikkbhgmaaGreat

namespace Go.Proofs.YtomijmikkbhgmaaGreat
open Go.RowKit

theorem Row.grown {w wr w1 : World} {bT n : Nat} {g : Nat → Int} {row : Option Nat} (h : Row w wr bT n g) (hg : wr.grownBy w1 row) (hr : ∀ k, row = some k → bT < k) : Row w w1 bT n g :=
  ⟨Below.grown h.hb hg h.hb.size (fun k e => by have := hr k e; have := h.n1; omega), h.row.of_block (hg.block bT h.row.lt (fun e => by have := hr bT e.symm; omega)), h.n1⟩

/-- A list of numbers that the call itself makes. -/
def IntRow (B : Nat) (w : World) (v : Value) (l : List Int) : Prop := w.ownsRow B 3 1 v l.length (l.map (Value.int .i64))

theorem IntRow.form {B : Nat} {w : World} {v : Value} {l : List Int} (h : IntRow B w v l) : ∃ ao b cap, v = .slice ao l.length cap ∧ (l ≠ [] → ao = some ⟨b, 0, none⟩) ∧ B ≤ b ∧ ∀ k x, l[k]? = some x → w.cell? ⟨b, k, none⟩ = some (.int .i64 x) := by
  rcases h.2 with ⟨rfl, hn⟩ | ⟨g, cap, cur, rfl, hg, hh, _⟩
  · have : l = [] := List.eq_nil_of_length_eq_zero hn
    subst this
    exact ⟨none, B, 0, rfl, fun h => absurd rfl h, Nat.le_refl _, fun k x h => by simp at h⟩
  · refine ⟨_, g, cap, rfl, fun _ => rfl, hg, fun k x hx => ?_⟩
    have := h.cells (g := g) rfl k (.int .i64 x) (by rw [List.getElem?_map, hx]; rfl)
    rw [Addr.add_lit] at this
    simpa using this

theorem IntRow.setCell {B : Nat} {w : World} {v : Value} {l : List Int} (h : IntRow B w v l) {b o : Nat} (hb : b < B) (u : Value) : IntRow B (w.setCell ⟨b, o, none⟩ u) v l :=
  own_other h (fun g hg => Below.heap_setCell w ⟨b, o, none⟩ u g (by have := (h.lt g hg).1; simp; omega))

/-- The counts, when of the event d of the row F the arrows to those below t have gone. -/
def kG (A : List (Int × Int)) (n : Nat) (F : List Int) (d t j : Nat) : Int := (cnt A n (F.take (if j < t then d + 1 else d)) j : Nat)
theorem kG_ge (A : List (Int × Int)) (n : Nat) (F : List Int) (d t : Nat) : kG A n F d t t = (cnt A n (F.take d) t : Nat) := by unfold kG; rw [if_neg (by omega)]
theorem kG_same {A : List (Int × Int)} {n : Nat} {F : List Int} {d t : Nat} (h : cnt A n (F.take (d + 1)) t = cnt A n (F.take d) t) (j : Nat) : kG A n F d t j = kG A n F d (t + 1) j := by
  unfold kG
  by_cases e : j = t
  · subst e; rw [if_neg (by omega), if_pos (by omega), h]
  · by_cases e2 : j < t
    · rw [if_pos e2, if_pos (by omega)]
    · rw [if_neg e2, if_neg (by omega)]
theorem kG_less {A : List (Int × Int)} {n : Nat} {F : List Int} {d t : Nat} (j : Nat) : (if j = t then ((cnt A n (F.take (d + 1)) t : Nat) : Int) else kG A n F d t j) = kG A n F d (t + 1) j := by
  unfold kG
  by_cases e : j = t
  · subst e; rw [if_pos rfl, if_pos (by omega)]
  · rw [if_neg e]
    by_cases e2 : j < t
    · rw [if_pos e2, if_pos (by omega)]
    · rw [if_neg e2, if_neg (by omega)]
theorem kG_more {A : List (Int × Int)} {n : Nat} {F : List Int} {d t : Nat} {x : Int} (hd : d < F.length) (j : Nat) : kG A n F d t j = kG A n (F ++ [x]) d t j := by
  unfold kG
  rw [List.take_append_of_le_length (by split <;> omega)]

set_option maxRecDepth 20000 in
set_option maxHeartbeats 4000000 in
theorem hasCircle_any (n : Nat) (hn : n ≤ 96) (A : List (Int × Int)) (p bl : Nat) (w : World) (h : SetAt w p bl n A) :
    Calls Tryz.prog 104 #[.pointer (some ⟨p, 0, none⟩)] w fun e w' => ∃ b : Bool, e = .returned (.bool b) ∧ (b = true ↔ Cyc n A) ∧ Below w.heap.size w w' := by
  have HS : Hid (SetAt w p bl n A) := h
  clear h
  have hsq := sq_le hn
  obtain ⟨i0, hi, hz0, hz1, hz2⟩ := info_parts Tryz.info3
  have HI : Hid (Tryz.prog.info? 3 = some i0 ∧ i0.zero = some (.int .i64 0) ∧ i0.size = 1 ∧ i0.bytes = 8) := ⟨hi, hz0, hz1, hz2⟩
  clear hi hz0 hz1 hz2
  go_enter Tryz.func104, Tryz.ntmps104
  go_wp2_with fail
  refine (countInto_any n hn A p bl w HS.out).mono ?_
  rintro e w1 ⟨rfl, hrow⟩
  have HR : Hid (Row w w1 w.heap.size n (fun j => (inTo A n j : Nat))) := hrow
  clear hrow
  go_wp2_with fail
  go_loopw [4, 13] (fun u i wr => ∃ k : Nat, k ≤ n ∧ i = .int .i64 k ∧ Hid (IntRow (w.heap.size + 1) wr u (noneIn A n k)) ∧ Hid (Row w wr w.heap.size n (fun j => (inTo A n j : Nat)))) (fun _ i _ => n - (intOf i).toNat)
  case atStart => exact ⟨0, Nat.zero_le _, rfl, World.ownsRow_nil _ _ _ _, HR.out⟩
  case round =>
    clear HR
    obtain ⟨k, hk, rfl, hown, hrow⟩ := hrel
    have HO := hown
    have HR := hrow
    by_cases hlt : k < n
    · have hkI : (k : Int) < (n : Int) := by omega
      have t0 := hrow.out.row.cell hlt
      have s0 := hrow.out.row.lt
      have hln := noneIn_len A n k
      clear hown hrow
      by_cases hz : inTo A n k = 0
      · have HN : Hid (noneIn A n (k + 1) = noneIn A n k ++ [(k : Int)]) := noneIn_yes hz
        rw [hz] at t0
        generalize noneIn A n k = xs at HO hln HN
        go_wp2_with (at_builtin; refine append_new _ rfl _ _ 26 rfl (w.heap.size + 1) 3 i0 (.int .i64 0) 1 8 Tryz.underlying26 HI.out.1 HI.out.2.1 HI.out.2.2.1 HI.out.2.2.2 rfl (by decide) _ xs.length (xs.map (Value.int .i64)) rfl (HO.out.alloc _) (some ⟨wr.heap.size, 0, none⟩) 1 1 [.int .i64 k] rfl (fun h => by cases h) rfl (fun ad had => by cases had; exact new_one rfl) (by simp [Value.oneCell']) (by unfold maxLen; omega) (by omega) (by simp; omega) ?_)
        intro u' w2 hown' hgrow _
        have HO2 : Hid (IntRow (w.heap.size + 1) w2 u' (noneIn A n (k + 1))) := by rw [HN.out]; exact own_snoc hown'
        have HR2 : Hid (Row w w2 w.heap.size n (fun j => (inTo A n j : Nat))) := (HR.out.alloc _).grown hgrow (fun kk e => by have := (HO.out.lt kk e).1; omega)
        clear hgrow hown' HO HR
        go_wp2_with fail
        go_roundw
        case measure => simp [intOf]; omega
        case rel => exact ⟨k + 1, by omega, by go_num, HO2.out, HR2.out⟩
      · have HN : Hid (noneIn A n (k + 1) = noneIn A n k) := noneIn_no hz
        have hz2 : (((inTo A n k : Nat) : Int) == 0) = false := by simp; exact hz
        go_wp2_with fail
        go_roundw
        case measure => simp [intOf]; omega
        case rel => exact ⟨k + 1, by omega, by go_num, by rw [HN.out]; exact HO.out, HR.out⟩
    · have hkn : k = n := by omega
      subst hkn
      have HK : Hid (Kahn k A (noneIn A k k) 0 0) := Kahn.start k A
      have HR2 : Hid (Row w wr w.heap.size k (kG A k (noneIn A k k) 0 0)) := HR.out.congr fun j hj => by unfold kG; rw [if_neg (by omega), List.take_zero, cnt_nil]
      generalize noneIn A k k = F0 at HO HK HR2
      clear hown hrow HR hlt hk
      go_wp2_with fail
      go_loopw [4, 7] (fun u i wr => ∃ (d : Nat) (F : List Int) (ao : Option Addr) (cap : Nat), d ≤ F.length ∧ F.length ≤ k ∧ i = .int .i64 d ∧ u = .slice ao F.length cap ∧ Hid (Kahn k A F d 0) ∧ Hid (IntRow (w.heap.size + 1) wr (.slice ao F.length cap) F) ∧ Hid (Row w wr w.heap.size k (kG A k F d 0))) (fun _ i _ => k - (intOf i).toNat)
      case atStart =>
        obtain ⟨ao, b, cap, hv, _⟩ := HO.out.form
        exact ⟨0, F0, ao, cap, Nat.zero_le _, HK.out.len, rfl, hv, HK.out, by rw [← hv]; exact HO.out, HR2.out⟩
      case round =>
        clear HK HR2 HO
        obtain ⟨d, F, ao, cap, hd, hF, rfl, rfl, hkahn, hown, hrow⟩ := hrel
        have HK := hkahn
        have HO := hown
        have HR := hrow
        clear hkahn hown hrow
        by_cases hdF : d < F.length
        · obtain ⟨x, hx⟩ := get_of_lt hdF
          obtain ⟨e, he, rfl⟩ := HK.out.nat x (List.mem_of_getElem? hx)
          have HX : Hid (F[d]? = some (e : Int)) := hx
          have hdI : (d : Int) < (F.length : Int) := by omega
          clear hx
          go_wp2_with fail
          clear hdI
          go_loopw [4, 8] (fun u i wr => ∃ (t : Nat) (F : List Int) (ao : Option Addr) (cap : Nat), t ≤ k ∧ d < F.length ∧ F.length ≤ k ∧ i = .int .i64 t ∧ u = .slice ao F.length cap ∧ Hid (F[d]? = some (e : Int)) ∧ Hid (Kahn k A F d t) ∧ Hid (IntRow (w.heap.size + 1) wr (.slice ao F.length cap) F) ∧ Hid (Row w wr w.heap.size k (kG A k F d t))) (fun _ i _ => k - (intOf i).toNat)
          case atStart => exact ⟨0, F, ao, cap, Nat.zero_le _, hdF, hF, rfl, rfl, HX.out, HK.out, HO.out, HR.out⟩
          case round =>
            clear HK HO HR HX hdF hF hd
            obtain ⟨t, F, ao, cap, ht, hdF, hF, rfl, rfl, hx, hkahn, hown, hrow⟩ := hrel
            have HK := hkahn
            have HO := hown
            have HR := hrow
            have HX := hx
            obtain ⟨c0, c1, hm, _⟩ := HS.out.keep hrow.out.hb
            by_cases htk : t < k
            · have htI : (t : Int) < (k : Int) := by omega
              have hdI : (d : Int) < (F.length : Int) := by omega
              obtain ⟨aoF, bF, capF, hvF, haF, hbF, hcF⟩ := hown.out.form
              simp only [Value.slice.injEq] at hvF
              obtain ⟨rfl, _, rfl⟩ := hvF
              obtain rfl := haF (ne_nil hdF)
              have f0 := hcF d _ hx.out
              have hq : e * k + t < k * k := by
                have : (e + 1) * k ≤ k * k := Nat.mul_le_mul_right k he
                rw [Nat.add_mul] at this; omega
              have e1 : (e : Int) * (k : Int) = ((e * k : Nat) : Int) := by simp
              have hqI : ((e * k : Nat) : Int) + (t : Int) = ((e * k + t : Nat) : Int) := by omega
              have r0 := hm.cell he htk
              have t0 := hrow.out.row.cell htk
              have z0 := hrow.out.row.frozen t
              have s0 := hrow.out.row.lt
              rw [kG_ge] at t0
              have hle := cnt_le A k (F.take d) t
              generalize e * k + t = q at hq hqI r0
              generalize e * k = m at e1 hqI
              generalize k * k = N at hq hsq c1
              have hqN : (q : Int) < (N : Int) := by omega
              have hm0 : (m : Int) ≤ 9216 := by omega
              have hw1 : IntKind.i64.wrap (m : Int) = (m : Int) := by rw [IntKind.wrap_i64]; omega
              have hw2 : IntKind.i64.wrap (q : Int) = (q : Int) := by rw [IntKind.wrap_i64]; omega
              clear hown hrow hm hkahn hcF haF hx
              cases hab : arwB A e t
              · rw [hab] at r0
                obtain ⟨hk2, hc2⟩ := HK.out.no HX.out hab
                have HK2 : Hid (Kahn k A F d (t + 1)) := hk2
                have HR2 : Hid (Row w wr w.heap.size k (kG A k F d (t + 1))) := HR.out.congr fun j _ => kG_same hc2 j
                clear hk2 hc2 HR HK
                go_wp2_with fail
                go_quiet (fail)
                go_wp2_with fail
                go_roundw
                case measure => simp [intOf]; omega
                case rel => exact ⟨t + 1, F, _, cap, by omega, hdF, hF, by go_num, rfl, HX.out, HK2.out, HO.out, HR2.out.drewN _⟩
              · rw [hab] at r0
                obtain ⟨hc1, hk1, hk0⟩ := HK.out.more HX.out htk hab
                rw [hc1] at t0
                have HR2 : Hid (∀ nq, Row w ((wr.drewN nq).setCell ⟨w.heap.size, t, none⟩ (.int .i64 (cnt A k (F.take (d + 1)) t : Nat))) w.heap.size k (kG A k F d (t + 1))) := fun nq => (HR.out.drewN nq).set t _ fun j _ => kG_less j
                have HO2 : Hid (∀ nq, IntRow (w.heap.size + 1) ((wr.drewN nq).setCell ⟨w.heap.size, t, none⟩ (.int .i64 (cnt A k (F.take (d + 1)) t : Nat))) (.slice (some ⟨bF, 0, none⟩) F.length cap) F) := fun nq => IntRow.setCell (w := wr.drewN nq) HO.out (by omega) _
                have HK1 : Hid (cnt A k (F.take (d + 1)) t ≠ 0 → Kahn k A F d (t + 1)) := hk1
                have HK0 : Hid (cnt A k (F.take (d + 1)) t = 0 → Kahn k A (F ++ [(t : Int)]) d (t + 1)) := hk0
                have hle2 : cnt A k (F.take (d + 1)) t + 1 ≤ k := by omega
                clear hc1 hk1 hk0 hle HR HO HK
                generalize cnt A k (F.take (d + 1)) t = c at t0 HR2 HO2 HK1 HK0 hle2
                rw [show (((c + 1 : Nat) : Int)) = (c : Int) + 1 by omega] at t0
                cases c with
                | zero =>
                  have HK2 : Hid (Kahn k A (F ++ [(t : Int)]) d (t + 1)) := HK0.out rfl
                  have hl2 : F.length + 1 ≤ k := by have := HK2.out.len; simpa using this
                  go_wp2_with fail
                  go_quiet (fail)
                  go_wp2_with (at_builtin; refine append_new _ rfl _ _ 26 rfl (w.heap.size + 1) 3 i0 (.int .i64 0) 1 8 Tryz.underlying26 HI.out.1 HI.out.2.1 HI.out.2.2.1 HI.out.2.2.2 rfl (by decide) _ F.length (F.map (Value.int .i64)) rfl ((HO2.out _).alloc _) (some ⟨wr.heap.size, 0, none⟩) 1 1 [.int .i64 t] rfl (fun h => by cases h) rfl (fun ad had => by cases had; exact new_one (by simp)) (by simp [Value.oneCell']) (by unfold maxLen; omega) (by omega) (by simp; omega) ?_)
                  intro u' w2 hown' hgrow _
                  have HO3 : Hid (IntRow (w.heap.size + 1) w2 u' (F ++ [(t : Int)])) := own_snoc hown'
                  have HR3 : Hid (Row w w2 w.heap.size k (kG A k (F ++ [(t : Int)]) d (t + 1))) := (((HR2.out _).alloc _).grown hgrow (fun kk e => by have := ((HO2.out 0).lt kk e).1; omega)).congr fun j _ => kG_more hdF j
                  have HX3 : Hid ((F ++ [(t : Int)])[d]? = some (e : Int)) := by show (F ++ [(t : Int)])[d]? = some (e : Int); rw [List.getElem?_append_left hdF]; exact HX.out
                  clear hgrow hown' HR2 HO2 HK0 HK1
                  obtain ⟨ao3, b3, cap3, hv3, _⟩ := HO3.out.form
                  have hlen3 : (F ++ [(t : Int)]).length = F.length + 1 := by simp
                  subst hv3
                  go_wp2_with fail
                  go_roundw
                  case measure => simp [intOf]; omega
                  case rel => exact ⟨t + 1, F ++ [(t : Int)], ao3, cap3, by omega, by omega, by omega, by go_num, rfl, HX3.out, HK2.out, HO3.out, HR3.out⟩
                | succ c =>
                  have HK2 : Hid (Kahn k A F d (t + 1)) := HK1.out (by omega)
                  have hc0 : (((c + 1 : Nat) : Int) == 0) = false := by simp; omega
                  go_wp2_with fail
                  go_quiet (fail)
                  go_wp2_with fail
                  go_roundw
                  case measure => simp [intOf]; omega
                  case rel => exact ⟨t + 1, F, _, cap, by omega, hdF, hF, by go_num, rfl, HX.out, HK2.out, HO2.out _, HR2.out _⟩
            · have htk2 : t = k := by omega
              subst htk2
              have HK2 : Hid (Kahn t A F (d + 1) 0) := HK.out.next
              have HR2 : Hid (Row w wr w.heap.size t (kG A t F (d + 1) 0)) := HR.out.congr fun j hj => by unfold kG; rw [if_pos hj, if_neg (by omega)]
              clear hown hrow hm hkahn HK HR
              go_wp2_with fail
              go_roundw
              case measure => simp [intOf]; omega
              case rel => exact ⟨d + 1, F, ao, cap, by omega, hF, by go_num, rfl, HK2.out, HO.out, HR2.out⟩
        · have hL := HK.out.last (by omega)
          have hb := HR.out.hb
          obtain ⟨c0, c1, hm, _⟩ := HS.out.keep hb
          have hdI : (F.length : Int) ≤ (d : Int) := by omega
          have HL : Hid (decide ((F.length : Int) < (k : Int)) = true ↔ Cyc k A) := hL
          clear hL hm
          go_wp2_with fail
          go_ret
          exact ⟨_, rfl, by rw [← HL.out]; simp, hb⟩

end Go.Proofs.YtomijmikkbhgmaaGreat

namespace Go.Proofs.YtomijmikkbhgmaaGreat
open Go.RowKit

def fen1 (a b : Evt) (z : Ins) : Bool := z.op == 4 && (z.mode == 0 || (z.mode == 1 && (a.kind == 0 && b.kind == 0)) || (z.mode == 2 && (a.kind == 1 && b.kind == 1)))
/-- Does a fence between two events of a thread keep them? -/
def fenB (l : List Ins) (a b : Evt) : Bool := ((l.take b.place.toNat).drop (a.place.toNat + 1)).any (fen1 a b)

theorem take_at {α : Type} {l : List α} {n k : Nat} {x : α} (h : l[k]? = some x) (hk : k < n) : (l.take n)[k]? = some x := by rw [List.getElem?_take_of_lt hk]; exact h

theorem below_three (w : World) (o1 o2 o3 : Obj) : Below w.heap.size w (((w.alloc o1).alloc o2).alloc o3) := (below_two w o1 o2).alloc (by simp only [World.size_alloc]; omega) _

set_option maxRecDepth 20000 in
set_option maxHeartbeats 2000000 in
theorem fenced_any (T : List (List Ins)) (fa : Bool) (c : List Atm) (tv vt vc : Value) (a b : Evt) (i pa pb : Nat) (l : List Ins) (hai : a.thread = (i : Int)) (hap : a.place = (pa : Int)) (hbp : b.place = (pb : Int)) (hl : T[i]? = some l) (hpb : pb ≤ l.length) (hl12 : l.length ≤ 12) (hpa : pa ≤ 12) (w : World) (h : TestAt w tv T fa c vt vc) :
    Calls Tryz.prog 165 #[tv, evV a, evV b] w fun e w' => e = .returned (.bool (fenB l a b)) ∧ Below w.heap.size w w' := by
  obtain ⟨hv, ht, _⟩ := h
  subst hv
  obtain ⟨ht0, ao, b0, off, cap, htv, hta, _, htc⟩ := ht.opened
  subst htv
  have hil : i < T.length := (List.getElem?_eq_some_iff.1 hl).1
  obtain rfl := hta (ne_nil hil)
  obtain ⟨hbl, ao2, cap2, g0, hi2⟩ := htc i l hl
  obtain ⟨_, ao3, b3, off3, cap3, hv3, ha3, _, hc3⟩ := hi2
  simp only [Value.slice.injEq] at hv3
  obtain ⟨q1, _, _⟩ := hv3
  have HC : Hid (∀ k x, l[k]? = some x → InsC w b3 (off3 + k * 5) x) := hc3
  have HB : Hid (fenB l a b = ((l.take pb).drop (pa + 1)).any (fen1 a b)) := by show fenB l a b = _; unfold fenB; rw [hap, hbp]; rfl
  generalize fenB l a b = B at HB ⊢
  have hiI : (i : Int) < (T.length : Int) := by omega
  have hbl1 : b0 < w.heap.size + 1 := by omega
  have hbl2 : b0 < w.heap.size + 1 + 1 := by omega
  unfold evV
  rw [hai, hap, hbp]
  clear hta htc ht ht0 hc3 hl hai hap hbp
  subst q1
  go_enter Tryz.func165, Tryz.ntmps165
  go_wp2_with fail
  go_loop [8] (fun p => ∃ k : Nat, k ≤ 13 ∧ p = .int .i64 k ∧ Hid (B = ((l.take pb).drop k).any (fen1 a b))) (fun p => 13 - (intOf p).toNat)
  case atStart => exact ⟨pa + 1, by omega, by go_num, HB.out⟩
  case round =>
    clear HB
    obtain ⟨k, hk, rfl, hn⟩ := hrel
    by_cases hlt : k < pb
    · obtain ⟨z, hz⟩ := get_of_lt (l := l) (k := k) (by omega)
      have hao := ha3 (ne_nil (k := k) (by omega))
      subst hao
      have hC := HC.out k z hz
      obtain ⟨c0, _, _, _, c4⟩ := hC
      have m3 := World.block_lt_of_cell? _ _ c0
      have m31 : b3 < w.heap.size + 1 := by simp only at m3; omega
      have m32 : b3 < w.heap.size + 1 + 1 := by omega
      have HN : Hid (B = (fen1 a b z || ((l.take pb).drop (k + 1)).any (fen1 a b))) := hn.out.trans (by rw [drop_cons (take_at hz hlt), List.any_cons])
      have hkI : (k : Int) < (pb : Int) := by omega
      have hkl : (k : Int) < (l.length : Int) := by omega
      clear hn hz
      have HMf : fen1 a b z = false → Hid (B = ((l.take pb).drop (k + 1)).any (fen1 a b)) := fun h => HN.out.trans (by rw [h, Bool.false_or])
      have HMt : fen1 a b z = true → Hid (B = true) := fun h => HN.out.trans (by rw [h, Bool.true_or])
      clear HN
      cases h4 : z.op == 4
      · have HM := HMf (by unfold fen1; rw [h4, Bool.false_and])
        have h4' : (z.op != 4) = true := by simp [bne, h4]
        clear HMf HMt
        go_wp2_with fail
        go_round
        case measure => simp [intOf]; omega
        case rel => exact ⟨k + 1, by omega, by go_num, HM.out⟩
      · have h4' : (z.op != 4) = false := by simp [bne, h4]
        cases h0 : z.mode == 0
        · cases h1 : z.mode == 1
          · cases h2 : z.mode == 2
            · have HM := HMf (by unfold fen1; rw [h4, h0, h1, h2]; rfl)
              clear HMf HMt
              go_wp2_with fail
              go_round
              case measure => simp [intOf]; omega
              case rel => exact ⟨k + 1, by omega, by go_num, HM.out⟩
            · cases ka : a.kind == 1
              · have HM := HMf (by unfold fen1; rw [h4, h0, h1, h2, ka]; rfl)
                clear HMf HMt
                go_wp2_with fail
                go_round
                case measure => simp [intOf]; omega
                case rel => exact ⟨k + 1, by omega, by go_num, HM.out⟩
              · cases kb : b.kind == 1
                · have HM := HMf (by unfold fen1; rw [h4, h0, h1, h2, ka, kb]; rfl)
                  clear HMf HMt
                  go_wp2_with fail
                  go_round
                  case measure => simp [intOf]; omega
                  case rel => exact ⟨k + 1, by omega, by go_num, HM.out⟩
                · have HM := HMt (by unfold fen1; rw [h4, h0, h1, h2, ka, kb]; rfl)
                  clear HMf HMt
                  go_wp2_with fail
                  go_ret
                  exact ⟨by rw [HM.out]; rfl, below_three _ _ _ _⟩
          · cases ka : a.kind == 0
            · have HM := HMf (by unfold fen1; rw [h4, h0, h1, ka, show (z.mode == 2) = false by simp at h1 ⊢; omega]; rfl)
              clear HMf HMt
              go_wp2_with fail
              go_round
              case measure => simp [intOf]; omega
              case rel => exact ⟨k + 1, by omega, by go_num, HM.out⟩
            · cases kb : b.kind == 0
              · have HM := HMf (by unfold fen1; rw [h4, h0, h1, ka, kb, show (z.mode == 2) = false by simp at h1 ⊢; omega]; rfl)
                clear HMf HMt
                go_wp2_with fail
                go_round
                case measure => simp [intOf]; omega
                case rel => exact ⟨k + 1, by omega, by go_num, HM.out⟩
              · have HM := HMt (by unfold fen1; rw [h4, h0, h1, ka, kb]; rfl)
                clear HMf HMt
                go_wp2_with fail
                go_ret
                exact ⟨by rw [HM.out]; rfl, below_three _ _ _ _⟩
        · have HM := HMt (by unfold fen1; rw [h4, h0]; rfl)
          clear HMf HMt
          go_wp2_with fail
          go_ret
          exact ⟨by rw [HM.out]; rfl, below_three _ _ _ _⟩
    · have HM : Hid (B = false) := hn.out.trans (by rw [drop_nil (l := l.take pb) (k := k) (by rw [List.length_take]; omega)]; rfl)
      have hkI : (pb : Int) ≤ (k : Int) := by omega
      clear hn
      go_wp2_with fail
      go_ret
      exact ⟨by rw [HM.out]; rfl, below_three _ _ _ _⟩

end Go.Proofs.YtomijmikkbhgmaaGreat

namespace Go.Proofs.YtomijmikkbhgmaaGreat
open Go.RowKit

def e4V (y : Evt) : Value := .agg #[.int .i64 y.thread, .int .i64 y.place, .int .i64 y.kind, .int .i64 y.loc]

/-- An event in a block of its own. -/
structure Box4 (w : World) (b : Nat) (x : Evt) : Prop where
  c0 : w.cell? ⟨b, 0, none⟩ = some (.int .i64 x.thread)
  c1 : w.cell? ⟨b, 1, none⟩ = some (.int .i64 x.place)
  c2 : w.cell? ⟨b, 2, none⟩ = some (.int .i64 x.kind)
  c3 : w.cell? ⟨b, 3, none⟩ = some (.int .i64 x.loc)
theorem Box4.keep {w w' : World} {b : Nat} {x : Evt} (h : Box4 w b x) (hb : Below w.heap.size w w') : Box4 w' b x := ⟨keep_cell hb h.c0, keep_cell hb h.c1, keep_cell hb h.c2, keep_cell hb h.c3⟩
theorem Box4.lt {w : World} {b : Nat} {x : Evt} (h : Box4 w b x) : b < w.heap.size := World.block_lt_of_cell? w _ h.c0
theorem box4_new (w : World) (x : Evt) (t : TypeId) : Box4 (w.alloc (.cells #[.int .i64 x.thread, .int .i64 x.place, .int .i64 x.kind, .int .i64 x.loc] t)) w.heap.size x := ⟨by simp, by simp, by simp, by simp⟩
theorem box4_two (w : World) (x y : Evt) (t : TypeId) : Box4 ((w.alloc (.cells #[.int .i64 x.thread, .int .i64 x.place, .int .i64 x.kind, .int .i64 x.loc] t)).alloc (.cells #[.int .i64 y.thread, .int .i64 y.place, .int .i64 y.kind, .int .i64 y.loc] t)) w.heap.size x ∧
    Box4 ((w.alloc (.cells #[.int .i64 x.thread, .int .i64 x.place, .int .i64 x.kind, .int .i64 x.loc] t)).alloc (.cells #[.int .i64 y.thread, .int .i64 y.place, .int .i64 y.kind, .int .i64 y.loc] t)) (w.heap.size + 1) y := by
  refine ⟨(box4_new w x t).keep (below_alloc _ _), ?_⟩
  have := box4_new (w.alloc (.cells #[.int .i64 x.thread, .int .i64 x.place, .int .i64 x.kind, .int .i64 x.loc] t)) y t
  rw [World.size_alloc] at this
  exact this

theorem isAccess_any (y : Evt) (w : World) :
    Calls Tryz.prog 160 #[e4V y] w fun e w' => e = .returned (.bool (memB y.kind)) ∧ Below w.heap.size w w' := by
  unfold memB e4V
  go_enter Tryz.func160, Tryz.ntmps160
  go_wp2
  all_goals go_ret
  all_goals exact ⟨ret_bool (by first | (simp [*]; done) | (simp_all; done) | (simp_all; omega)), below_alloc _ _⟩

theorem isOfSync_any (y : Evt) (w : World) :
    Calls Tryz.prog 170 #[e4V y] w fun e w' => e = .returned (.bool (y.kind == 4 || y.kind == 5)) ∧ Below w.heap.size w w' := by
  unfold e4V
  go_enter Tryz.func170, Tryz.ntmps170
  go_wp2
  all_goals go_ret
  all_goals exact ⟨ret_bool (by first | (simp [*]; done) | (simp_all; done) | (simp_all; omega)), below_alloc _ _⟩

def swapB (a b : Evt) : Bool := a.thread == b.thread && a.place == b.place && a.kind == 0 && b.kind == 1
set_option maxHeartbeats 1000000 in
theorem isSwap_any (a b : Evt) (w : World) :
    Calls Tryz.prog 137 #[e4V a, e4V b] w fun e w' => e = .returned (.bool (swapB a b)) ∧ Below w.heap.size w w' := by
  unfold e4V swapB
  go_enter Tryz.func137, Tryz.ntmps137
  go_wp2
  all_goals go_ret
  all_goals exact ⟨ret_bool (by first | (simp [*]; done) | (simp_all; done) | (simp_all; omega)), below_two _ _ _⟩

def hldB (m a b : Int) : Bool := m == 0 || (m == 1 && (a == 0 && b == 0)) || (m == 2 && (a == 1 && b == 1))
set_option maxHeartbeats 1000000 in
theorem holds_any (m a b : Int) (w : World) :
    Calls Tryz.prog 169 #[.int .i64 m, .int .i64 a, .int .i64 b] w fun e w' => e = .returned (.bool (hldB m a b)) ∧ w' = w := by
  unfold hldB
  go_enter Tryz.func169, Tryz.ntmps169
  go_wp2
  all_goals go_ret
  all_goals exact ⟨ret_bool (by first | (simp [*]; done) | (simp_all; done) | (simp_all; omega)), rfl⟩

/-- Are they Reads or Writes of one location? -/
def sameB (a b : Evt) : Bool := memB a.kind && memB b.kind && a.loc == b.loc
set_option maxHeartbeats 1000000 in
theorem isSameLoc_any (a b : Evt) (w : World) :
    Calls Tryz.prog 135 #[e4V a, e4V b] w fun e w' => e = .returned (.bool (sameB a b)) ∧ Below w.heap.size w w' := by
  have HB : Hid (sameB a b = (memB a.kind && memB b.kind && a.loc == b.loc)) := rfl
  generalize sameB a b = B at HB ⊢
  unfold e4V
  go_enter Tryz.func135, Tryz.ntmps135
  go_wp2_with fail
  have HX := box4_two w a b 75
  have hbw := below_two w (.cells #[.int .i64 a.thread, .int .i64 a.place, .int .i64 a.kind, .int .i64 a.loc] 75) (.cells #[.int .i64 b.thread, .int .i64 b.place, .int .i64 b.kind, .int .i64 b.loc] 75)
  generalize hW : (w.alloc (.cells #[.int .i64 a.thread, .int .i64 a.place, .int .i64 a.kind, .int .i64 a.loc] 75)).alloc (.cells #[.int .i64 b.thread, .int .i64 b.place, .int .i64 b.kind, .int .i64 b.loc] 75) = W at HX hbw ⊢
  clear hW
  refine (isAccess_any a _).mono ?_
  rintro e w3 ⟨rfl, hb3⟩
  obtain ⟨a0, a1, a2, a3⟩ := HX.1.keep hb3
  obtain ⟨b0, b1, b2, b3⟩ := HX.2.keep hb3
  have hbw3 := below_more hbw hb3
  cases hm : memB a.kind
  · have HM : Hid (B = false) := HB.out.trans (by rw [hm]; rfl)
    go_wp2_with fail
    go_ret
    exact ⟨by rw [HM.out]; rfl, hbw3⟩
  · have HB2 : Hid (B = (memB b.kind && a.loc == b.loc)) := HB.out.trans (by rw [hm]; rfl)
    go_wp2_with fail
    refine (isAccess_any b _).mono ?_
    rintro e w4 ⟨rfl, hb4⟩
    have hbw4 := below_more hbw3 hb4
    clear a0 a1 a2 a3 b0 b1 b2 b3
    have a3 := ((HX.1.keep hb3).keep hb4).c3
    have b3 := ((HX.2.keep hb3).keep hb4).c3
    cases hm2 : memB b.kind
    · have HM : Hid (B = false) := HB2.out.trans (by rw [hm2]; rfl)
      go_wp2_with fail
      go_ret
      exact ⟨by rw [HM.out]; rfl, hbw4⟩
    · have HM : Hid (B = (a.loc == b.loc)) := HB2.out.trans (by rw [hm2]; rfl)
      go_wp2_with fail
      go_ret
      exact ⟨by rw [HM.out]; rfl, hbw4⟩

/-- Is one of them a mark that keeps the other one on its side? -/
def mrkB (a b : Evt) : Bool := a.kind == 2 || b.kind == 3 || (a.kind == 4 || a.kind == 5) || (b.kind == 4 || b.kind == 5)
set_option maxHeartbeats 1000000 in
theorem isMarked_any (a b : Evt) (w : World) :
    Calls Tryz.prog 163 #[e4V a, e4V b] w fun e w' => e = .returned (.bool (mrkB a b)) ∧ Below w.heap.size w w' := by
  have HB : Hid (mrkB a b = (a.kind == 2 || b.kind == 3 || (a.kind == 4 || a.kind == 5) || (b.kind == 4 || b.kind == 5))) := rfl
  generalize mrkB a b = B at HB ⊢
  generalize hsa : (a.kind == 4 || a.kind == 5) = SA at HB
  generalize hsb : (b.kind == 4 || b.kind == 5) = SB at HB
  have HSA : Hid ((a.kind == 4 || a.kind == 5) = SA ∧ (b.kind == 4 || b.kind == 5) = SB) := ⟨hsa, hsb⟩
  clear hsa hsb
  unfold e4V
  have HX := box4_two w a b 75
  have hbw := below_two w (.cells #[.int .i64 a.thread, .int .i64 a.place, .int .i64 a.kind, .int .i64 a.loc] 75) (.cells #[.int .i64 b.thread, .int .i64 b.place, .int .i64 b.kind, .int .i64 b.loc] 75)
  cases k2 : a.kind == 2
  · cases k3 : b.kind == 3
    · have HB2 : Hid (B = (SA || SB)) := HB.out.trans (by rw [k2, k3]; rfl)
      go_enter Tryz.func163, Tryz.ntmps163
      go_wp2_with fail
      generalize hW : (w.alloc (.cells #[.int .i64 a.thread, .int .i64 a.place, .int .i64 a.kind, .int .i64 a.loc] 75)).alloc (.cells #[.int .i64 b.thread, .int .i64 b.place, .int .i64 b.kind, .int .i64 b.loc] 75) = W at HX hbw ⊢
      clear hW
      refine (isOfSync_any a _).mono ?_
      rw [HSA.out.1]
      rintro e w3 ⟨rfl, hb3⟩
      have hbw3 := below_more hbw hb3
      cases SA
      · obtain ⟨b0, b1, b2, b3⟩ := HX.2.keep hb3
        go_wp2_with fail
        refine (isOfSync_any b _).mono ?_
        rw [HSA.out.2]
        rintro e w4 ⟨rfl, hb4⟩
        have hbw4 := below_more hbw3 hb4
        go_wp2_with fail
        go_ret
        exact ⟨by rw [HB2.out, Bool.false_or]; rfl, hbw4⟩
      · go_wp2_with fail
        go_ret
        exact ⟨by rw [HB2.out]; rfl, hbw3⟩
    · have HM : Hid (B = true) := HB.out.trans (by rw [k3]; simp)
      go_enter Tryz.func163, Tryz.ntmps163
      go_wp2_with fail
      go_ret
      exact ⟨by rw [HM.out]; rfl, hbw⟩
  · have HM : Hid (B = true) := HB.out.trans (by rw [k2]; simp)
    go_enter Tryz.func163, Tryz.ntmps163
    go_wp2_with fail
    go_ret
    exact ⟨by rw [HM.out]; rfl, hbw⟩

/-- Each event is of an instruction of the test. -/
structure EvIn (T : List (List Ins)) (y : Evt) (i p : Nat) (l : List Ins) : Prop where
  th : y.thread = (i : Int)
  pl : y.place = (p : Int)
  l0 : T[i]? = some l
  l1 : l[p]? = some y.ins

theorem InsAt.form {w : World} {v : Value} {l : List Ins} (h : InsAt w v l) : ∃ ao cap, v = .slice ao l.length cap := by
  obtain ⟨_, ao, b, off, cap, h⟩ := h
  exact ⟨ao, cap, h.hv⟩

set_option maxHeartbeats 1000000 in
theorem instrOf_any (T : List (List Ins)) (_hT : T.length ≤ 4) (vt : Value) (i p : Nat) (l : List Ins) (z : Ins) (_hl12 : l.length ≤ 12) (hl : T[i]? = some l) (hz : l[p]? = some z) (kd lc : Int) (w : World) (h : ThrAt w vt T) :
    Calls Tryz.prog 120 #[vt, .agg #[.int .i64 i, .int .i64 p, .int .i64 kd, .int .i64 lc]] w fun e w' => e = .returned (.agg #[.int .i64 z.op, .int .i64 z.loc, .int .i64 z.reg, .int .i64 z.val, .int .i64 z.mode]) ∧ Below w.heap.size w w' := by
  obtain ⟨_, ao, b, off, cap, hv, ha, _, hc⟩ := h
  subst hv
  have hiT : i < T.length := (List.getElem?_eq_some_iff.1 hl).1
  have hpl : p < l.length := (List.getElem?_eq_some_iff.1 hz).1
  obtain ⟨u, c0, _, ao2, b2, off2, cap2, hv2, ha2, _, hc2⟩ := hc i l hl
  subst hv2
  rw [Nat.mul_one] at c0
  obtain rfl := ha (ne_nil hiT)
  obtain rfl := ha2 (ne_nil hpl)
  obtain ⟨d0, d1, d2, d3, d4⟩ := hc2 p z hz
  have m0 := World.block_lt_of_cell? _ _ c0
  have m1 := World.block_lt_of_cell? _ _ d0
  have hiI : (i : Int) < (T.length : Int) := by omega
  have hpI : (p : Int) < (l.length : Int) := by omega
  simp only at m0 m1
  clear hc hc2 ha ha2 hl hz
  go_enter Tryz.func120, Tryz.ntmps120
  go_wp2_with fail
  exact bodyPost_ret (v := .agg #[.int .i64 z.op, .int .i64 z.loc, .int .i64 z.reg, .int .i64 z.val, .int .i64 z.mode]) (by simp [results, Tryz.results120, go_sem, *]) rfl ⟨rfl, below_two _ _ _⟩

end Go.Proofs.YtomijmikkbhgmaaGreat

namespace Go.Proofs.YtomijmikkbhgmaaGreat
open Go.RowKit

/-- Event by event, from which Write it reads. -/
def srcL : List Evt → List Int → List Int
  | [], _ => []
  | y :: E, F => if y.kind == 0 then (match F with
    | [] => -1 :: srcL E []
    | f :: F => f :: srcL E F) else -1 :: srcL E F

theorem srcL_len (E : List Evt) (F : List Int) : (srcL E F).length = E.length := by
  induction E generalizing F with
  | nil => rfl
  | cons y E ih =>
    unfold srcL
    split
    · split <;> simp [ih]
    · simp [ih]
theorem srcL_not {y : Evt} (h : (y.kind == 0) = false) (E : List Evt) (F : List Int) : srcL (y :: E) F = -1 :: srcL E F := by simp [srcL, h]
theorem srcL_out {y : Evt} (h : (y.kind == 0) = true) (E : List Evt) : srcL (y :: E) [] = -1 :: srcL E [] := by simp [srcL, h]
theorem srcL_read {y : Evt} (h : (y.kind == 0) = true) (E : List Evt) (f : Int) (F : List Int) : srcL (y :: E) (f :: F) = f :: srcL E F := by simp [srcL, h]

theorem getD_drop {S : List Int} {k : Nat} {a : Int} {l : List Int} (h : S.drop k = a :: l) : S.getD k 0 = a ∧ S.drop (k + 1) = l := by
  have h1 : (S.drop k)[0]? = some a := by rw [h]; rfl
  rw [List.getElem?_drop, Nat.add_zero] at h1
  refine ⟨by rw [List.getD, h1]; rfl, ?_⟩
  have : S.drop (k + 1) = (S.drop k).drop 1 := by rw [List.drop_drop, Nat.add_comm]
  rw [this, h]; rfl

/-- The first k entries of a list, and noughts. -/
def upG (S : List Int) (k j : Nat) : Int := if j < k then S.getD j 0 else 0
theorem upG_step {S : List Int} {k : Nat} {a : Int} (h : S.getD k 0 = a) (j : Nat) : (if j = k then a else upG S k j) = upG S (k + 1) j := by
  unfold upG
  by_cases e : j = k
  · subst e; rw [if_pos rfl, if_pos (by omega), h]
  · rw [if_neg e]
    by_cases e2 : j < k
    · rw [if_pos e2, if_pos (by omega)]
    · rw [if_neg e2, if_neg (by omega)]

/-- A row read as a list. -/
theorem Row.list {w wr : World} {bT n : Nat} {g : Nat → Int} (h : Row w wr bT n g) : IntAt wr (.slice (some ⟨bT, 0, none⟩) n n) ((List.range n).map g) := by
  refine ⟨_, bT, 0, n, by simp, fun _ => rfl, fun h => by simp at h, fun k x hx => ?_⟩
  have hk : k < n := by have := (List.getElem?_eq_some_iff.1 hx).1; simpa using this
  have hg : g k = x := by simpa [hk] using hx
  have := h.row.cell hk
  unfold IntC
  rw [Nat.mul_one, Nat.zero_add, ← hg]; exact this

set_option maxRecDepth 20000 in
set_option maxHeartbeats 1000000 in
theorem sourcesJ_any (E : List Evt) (hE : E.length ≤ 96) (F : List Int) (hF : F.length ≤ 96) (v vf : Value) (w : World) (h : Ev4At w v E) (hf : IntAt w vf F) :
    Calls Tryz.prog 73 #[v, vf] w fun e w' => e = .returned (.slice (some ⟨w.heap.size, 0, none⟩) E.length E.length) ∧ Row w w' w.heap.size E.length (fun j => (srcL E F).getD j 0) := by
  obtain ⟨ao, b, off, cap, hv, ha, _, hc⟩ := h
  obtain ⟨aof, bf, offf, capf, hvf, haf, _, hcf⟩ := hf
  subst hv hvf
  have HC : Hid (∀ k y, E[k]? = some y → Ev4C w b (off + k * 4) y) := hc
  have HF : Hid (∀ k a, F[k]? = some a → IntC w bf (offf + k * 1) a) := hcf
  have hmk := run_make_row' (P := Tryz.prog) 26 3 (.int .i64 0) 8 Tryz.underlying26 Tryz.info3 rfl .i64 .i64 E.length (by omega) (by omega)
  have HS : Hid (srcL (E.drop 0) (F.drop 0) = (srcL E F).drop 0) := rfl
  generalize srcL E F = S at HS ⊢
  have HG0 : Hid (Row w (w.alloc (.cells (madeCells #[.int .i64 0] E.length) 3)) w.heap.size E.length (upG S 0)) := ⟨below_alloc _ _, World.rowIs_made w (.int .i64 0) E.length 3, Nat.le_refl _⟩
  clear hc hcf
  go_enter Tryz.func73, Tryz.ntmps73
  go_wp2_with fail
  clear hmk
  go_loopw [6, 14] (fun u i wr => ∃ (k c : Nat), k ≤ E.length ∧ c ≤ k ∧ i = .int .i64 k ∧ u = .int .i64 c ∧ Hid (srcL (E.drop k) (F.drop c) = S.drop k) ∧ Hid (Row w wr w.heap.size E.length (upG S k))) (fun _ i _ => E.length - (intOf i).toNat)
  case atStart => exact ⟨0, 0, Nat.zero_le _, Nat.zero_le _, rfl, rfl, HS.out, HG0.out⟩
  case round =>
    clear HS HG0
    obtain ⟨k, n, hk, hnk, rfl, rfl, hs, hr⟩ := hrel
    have HR := hr
    by_cases hlt : k < E.length
    · obtain ⟨y, hy⟩ := get_of_lt hlt
      obtain rfl := ha (ne_nil hlt)
      obtain ⟨c0, c1, c2, c3⟩ := ev4C_keeps _ _ _ _ _ hr.out.hb (HC.out k y hy)
      have hkI : (k : Int) < (E.length : Int) := by omega
      have m0 := World.block_lt_of_cell? _ _ c0
      simp only at m0
      have t0 := hr.out.row.cell hlt
      have z0 := hr.out.row.frozen k
      have s0 := hr.out.row.lt
      have s1 : w.heap.size < wr.heap.size + 1 := by omega
      have hS0 : S.drop k = srcL (y :: E.drop (k + 1)) (F.drop n) := by rw [← hs.out, drop_cons hy]
      clear hs hr hy
      cases h0 : y.kind == 0
      · have hS1 : S.drop k = -1 :: srcL (E.drop (k + 1)) (F.drop n) := hS0.trans (srcL_not h0 _ _)
        obtain ⟨g1, g2⟩ := getD_drop hS1
        have HS2 : Hid (srcL (E.drop (k + 1)) (F.drop n) = S.drop (k + 1)) := g2.symm
        have HR2 : Hid (Row w (wr.setCell ⟨w.heap.size, k, none⟩ (.int .i64 (-1))) w.heap.size E.length (upG S (k + 1))) := HR.out.set k _ fun j _ => upG_step g1 j
        clear hS0 hS1 g1 g2 HR
        go_wp2_with fail
        go_roundw
        case measure => simp [intOf]; omega
        case rel => exact ⟨k + 1, n, by omega, by omega, by go_num, rfl, HS2.out, HR2.out.alloc _⟩
      · by_cases hnF : n < F.length
        · obtain ⟨f, hf⟩ := get_of_lt hnF
          obtain rfl := haf (ne_nil hnF)
          have q0 := intC_keeps _ _ _ _ _ HR.out.hb (HF.out n f hf)
          unfold IntC at q0
          rw [Nat.mul_one] at q0
          have m1 := World.block_lt_of_cell? _ _ q0
          have m2 := World.block_lt_of_cell? _ _ (HF.out n f hf)
          simp only at m1 m2
          have mne : bf ≠ w.heap.size := by omega
          have hS1 : S.drop k = f :: srcL (E.drop (k + 1)) (F.drop (n + 1)) := hS0.trans (by rw [drop_cons hf, srcL_read h0])
          obtain ⟨g1, g2⟩ := getD_drop hS1
          have hnI : (n : Int) < (F.length : Int) := by omega
          have HS2 : Hid (srcL (E.drop (k + 1)) (F.drop (n + 1)) = S.drop (k + 1)) := g2.symm
          have HR1 : Hid (Row w (wr.setCell ⟨w.heap.size, k, none⟩ (.int .i64 (-1))) w.heap.size E.length (fun j => if j = k then -1 else upG S k j)) := HR.out.set k _ fun j _ => rfl
          have HR2 : Hid (Row w ((wr.setCell ⟨w.heap.size, k, none⟩ (.int .i64 (-1))).setCell ⟨w.heap.size, k, none⟩ (.int .i64 f)) w.heap.size E.length (upG S (k + 1))) := HR1.out.set k _ fun j _ => by
            rw [← upG_step g1 j]
            by_cases e : j = k
            · rw [if_pos e, if_pos e]
            · rw [if_neg e, if_neg e, if_neg e]
          have HR3 : Hid (Row w (wr.setCell ⟨w.heap.size, k, none⟩ (.int .i64 f)) w.heap.size E.length (upG S (k + 1))) := HR.out.set k _ fun j _ => upG_step g1 j
          clear hS0 hS1 g1 g2 HR hf
          go_wp2_with fail
          go_roundw
          case measure => simp [intOf]; omega
          case rel => exact ⟨k + 1, n + 1, by omega, by omega, by go_num, by go_num, HS2.out, by first | exact HR2.out.alloc _ | exact HR3.out.alloc _⟩
        · have hd : F.drop n = [] := drop_nil hnF
          have hS1 : S.drop k = -1 :: srcL (E.drop (k + 1)) (F.drop n) := hS0.trans (by rw [hd, srcL_out h0])
          obtain ⟨g1, g2⟩ := getD_drop hS1
          have hnI : (F.length : Int) ≤ (n : Int) := by omega
          have hnd : decide ((n : Int) < (F.length : Int)) = false := by rw [decide_eq_false_iff_not]; omega
          have HS2 : Hid (srcL (E.drop (k + 1)) (F.drop n) = S.drop (k + 1)) := g2.symm
          have HR2 : Hid (Row w (wr.setCell ⟨w.heap.size, k, none⟩ (.int .i64 (-1))) w.heap.size E.length (upG S (k + 1))) := HR.out.set k _ fun j _ => upG_step g1 j
          clear hS0 hS1 g1 g2 HR hd
          go_wp2_with fail
          go_roundw
          case measure => simp [intOf]; omega
          case rel => exact ⟨k + 1, n, by omega, by omega, by go_num, rfl, HS2.out, HR2.out.alloc _⟩
    · have HR2 : Hid (Row w wr w.heap.size E.length (fun j => S.getD j 0)) := HR.out.congr fun j hj => by unfold upG; rw [if_pos (by omega)]
      have hkI : (E.length : Int) ≤ (k : Int) := by omega
      clear hs hr HR
      go_wp2_with fail
      go_ret
      exact ⟨rfl, HR2.out⟩

end Go.Proofs.YtomijmikkbhgmaaGreat

namespace Go.Proofs.YtomijmikkbhgmaaGreat
open Go.RowKit

def setG (g : Nat → Int) (i : Nat) (v : Int) : Nat → Int := fun j => if j = i then v else g j
def inN (n : Nat) (x : Int) : Bool := decide (0 ≤ x) && decide (x < (n : Int))
/-- The Writes of a list get their places, from p + 1 on. -/
def wrG (n : Nat) : List Int → Nat → (Nat → Int) → (Nat → Int)
  | [], _, g => g
  | x :: l, p, g => wrG n l (p + 1) (if inN n x then setG g x.toNat ((p : Int) + 1) else g)
def ordG (n : Nat) : List (List Int) → (Nat → Int) → (Nat → Int)
  | [], g => g
  | l :: L, g => ordG n L (wrG n l 0 g)
/-- The Reads get those of what they read from. -/
def rdG (n : Nat) : List Int → Nat → (Nat → Int) → (Nat → Int)
  | [], _, g => g
  | x :: l, r, g => rdG n l (r + 1) (if inN n x then setG g r (g x.toNat) else g)
def rankG (n : Nat) (S : List Int) (order : List (List Int)) : Nat → Int := rdG n S 0 (ordG n order (fun _ => 0))

theorem Row.setG {w wr : World} {bT n : Nat} {g : Nat → Int} (h : Row w wr bT n g) (i : Nat) (x : Int) : Row w (wr.setCell ⟨bT, i, none⟩ (.int .i64 x)) bT n (setG g i x) := h.set i x fun _ _ => rfl

theorem inN_no {n : Nat} {x : Int} (h : ¬ (0 ≤ x ∧ x < (n : Int))) : inN n x = false := by
  unfold inN
  cases hh : (decide (0 ≤ x) && decide (x < (n : Int)))
  · rfl
  · simp only [Bool.and_eq_true, decide_eq_true_eq] at hh; exact absurd hh h
theorem inN_yes {n : Nat} {a : Nat} (h : a < n) : inN n (a : Int) = true := by unfold inN; simp; exact h

set_option maxRecDepth 20000 in
set_option maxHeartbeats 1000000 in
theorem ranks_any (E : List Evt) (hE : E.length ≤ 96) (S : List Int) (hS : S.length = E.length) (order : List (List Int)) (h3 : order.length ≤ 3) (h96 : ∀ l ∈ order, l.length ≤ 96) (v vs vo : Value) (w : World) (h : Ev4At w v E) (hs : IntAt w vs S) (ho : LstAt w vo order) :
    Calls Tryz.prog 99 #[v, vs, vo] w fun e w' => e = .returned (.slice (some ⟨w.heap.size, 0, none⟩) E.length E.length) ∧ Row w w' w.heap.size E.length (rankG E.length S order) := by
  obtain ⟨ao, b, off, cap, hv, _⟩ := h
  obtain ⟨aos, bs, offs, caps, hvs, has, _, hcs⟩ := hs
  obtain ⟨aoo, bo, offo, capo, hvo, hao, _, hco⟩ := ho
  subst hv hvs hvo
  rw [hS]
  have HS : Hid (∀ k a, S[k]? = some a → IntC w bs (offs + k * 1) a) := hcs
  have HO : Hid (∀ k l, order[k]? = some l → LC w bo (offo + k * 1) l) := hco
  have HL : Hid (∀ l ∈ order, l.length ≤ 96) := h96
  have HSL : Hid (S.length = E.length) := hS
  have hmk := run_make_row' (P := Tryz.prog) 26 3 (.int .i64 0) 8 Tryz.underlying26 Tryz.info3 rfl .i64 .i64 E.length (by omega) (by omega)
  have HG : Hid (rankG E.length S order = rdG E.length S 0 (ordG E.length (order.drop 0) (fun _ => 0))) := rfl
  generalize rankG E.length S order = G at HG ⊢
  generalize E.length = n at *
  have HG0 : Hid (Row w (w.alloc (.cells (madeCells #[.int .i64 0] n) 3)) w.heap.size n (fun _ => 0)) := ⟨below_alloc _ _, World.rowIs_made w (.int .i64 0) n 3, Nat.le_refl _⟩
  clear hcs hco h96 hS
  go_enter Tryz.func99, Tryz.ntmps99
  go_wp2_with fail
  clear hmk
  go_loopw [19] (fun i wr => ∃ (k : Nat) (g : Nat → Int), k ≤ order.length ∧ i = .int .i64 k ∧ Hid (G = rdG n S 0 (ordG n (order.drop k) g)) ∧ Hid (Row w wr w.heap.size n g)) (fun i _ => order.length - (intOf i).toNat)
  case atStart => exact ⟨0, _, Nat.zero_le _, rfl, HG.out, HG0.out⟩
  case round =>
    clear HG HG0
    obtain ⟨k, g, hk, rfl, hg, hr⟩ := hrel
    have HR := hr
    by_cases hlt : k < order.length
    · obtain ⟨l, hl⟩ := get_of_lt hlt
      obtain rfl := hao (ne_nil hlt)
      obtain ⟨ul, u0, iul⟩ := lc_keeps _ _ _ _ _ hr.out.hb (HO.out k l hl)
      obtain ⟨aol, bl, offl, capl, hvl, hal, _, _⟩ := iul
      subst hvl
      rw [Nat.mul_one] at u0
      have hl96 := HL.out l (List.mem_of_getElem? hl)
      obtain ⟨ul2, u02, iul2⟩ := HO.out k l hl
      rw [Nat.mul_one] at u02
      have hu2 : ul2 = .slice aol l.length capl := by have h1 := keep_cell hr.out.hb u02; rw [u0] at h1; exact (Option.some.inj h1).symm
      subst hu2
      obtain ⟨aol', bl', offl', capl', hvl', hal', _, hcl'⟩ := iul2
      simp only [Value.slice.injEq] at hvl'
      obtain ⟨rfl, _, rfl⟩ := hvl'
      have HCL : Hid (∀ k a, l[k]? = some a → IntC w bl' (offl' + k * 1) a) := hcl'
      have HG1 : Hid (G = rdG n S 0 (ordG n (order.drop (k + 1)) (wrG n (l.drop 0) 0 g))) := hg.out.trans (by rw [drop_cons hl]; rfl)
      have hkI : (k : Int) < (order.length : Int) := by omega
      clear hg hr hcl' hl hal u02
      go_wp2_with fail
      clear u0
      go_loopw [25] (fun i wr => ∃ (p : Nat) (g : Nat → Int), p ≤ l.length ∧ i = .int .i64 p ∧ Hid (G = rdG n S 0 (ordG n (order.drop (k + 1)) (wrG n (l.drop p) p g))) ∧ Hid (Row w wr w.heap.size n g)) (fun i _ => l.length - (intOf i).toNat)
      case atStart => exact ⟨0, g, Nat.zero_le _, rfl, HG1.out, HR.out⟩
      case round =>
        clear HG1 HR
        obtain ⟨p, g2, hp, rfl, hg, hr⟩ := hrel
        have HR := hr
        by_cases hpl : p < l.length
        · obtain ⟨x, hx⟩ := get_of_lt hpl
          obtain rfl := hal' (ne_nil hpl)
          have q0 := intC_keeps _ _ _ _ _ hr.out.hb (HCL.out p x hx)
          unfold IntC at q0
          rw [Nat.mul_one] at q0
          have hpI : (p : Int) < (l.length : Int) := by omega
          have HG2 : Hid (G = rdG n S 0 (ordG n (order.drop (k + 1)) (wrG n (l.drop (p + 1)) (p + 1) (if inN n x then setG g2 x.toNat ((p : Int) + 1) else g2)))) := hg.out.trans (by rw [drop_cons hx]; rfl)
          clear hg hr hx
          by_cases hin : 0 ≤ x ∧ x < (n : Int)
          · obtain ⟨hx0, hxn⟩ := hin
            obtain ⟨a, rfl⟩ := Int.eq_ofNat_of_zero_le hx0
            have han : a < n := by omega
            have HG3 : Hid (G = rdG n S 0 (ordG n (order.drop (k + 1)) (wrG n (l.drop (p + 1)) (p + 1) (setG g2 a ((p : Int) + 1))))) := HG2.out.trans (by rw [if_pos (inN_yes han), Int.toNat_natCast])
            have HR2 : Hid (Row w (wr.setCell ⟨w.heap.size, a, none⟩ (.int .i64 ((p : Int) + 1))) w.heap.size n (setG g2 a ((p : Int) + 1))) := HR.out.setG a _
            have t0 := HR.out.row.cell han
            have z0 := HR.out.row.frozen a
            have s0 := HR.out.row.lt
            clear HR HG2
            go_wp2_with fail
            go_roundw
            case measure => simp [intOf]; omega
            case rel => exact ⟨p + 1, _, by omega, by go_num, HG3.out, HR2.out⟩
          · have HG3 : Hid (G = rdG n S 0 (ordG n (order.drop (k + 1)) (wrG n (l.drop (p + 1)) (p + 1) g2))) := HG2.out.trans (by rw [if_neg (by rw [inN_no hin]; simp)])
            clear HG2
            cases hx0 : decide (0 ≤ x)
            · go_wp2_with fail
              go_roundw
              case measure => simp [intOf]; omega
              case rel => exact ⟨p + 1, _, by omega, by go_num, HG3.out, HR.out⟩
            · have hxn : decide (x < (n : Int)) = false := by
                rw [decide_eq_false_iff_not]
                intro h
                simp only [decide_eq_true_eq] at hx0
                exact hin ⟨hx0, h⟩
              go_wp2_with fail
              go_roundw
              case measure => simp [intOf]; omega
              case rel => exact ⟨p + 1, _, by omega, by go_num, HG3.out, HR.out⟩
        · have HG2 : Hid (G = rdG n S 0 (ordG n (order.drop (k + 1)) g2)) := hg.out.trans (by rw [drop_nil hpl]; rfl)
          have hpI : (l.length : Int) ≤ (p : Int) := by omega
          clear hg hr
          go_wp2_with fail
          go_roundw
          case measure => simp [intOf]; omega
          case rel => exact ⟨k + 1, _, by omega, by go_num, HG2.out, HR.out⟩
    · have HG1 : Hid (G = rdG n (S.drop 0) 0 g) := hg.out.trans (by rw [drop_nil hlt]; rfl)
      have hkI : (order.length : Int) ≤ (k : Int) := by omega
      clear hg hr
      go_wp2_with fail
      go_loopw [47] (fun i wr => ∃ (r : Nat) (g : Nat → Int), r ≤ n ∧ i = .int .i64 r ∧ Hid (G = rdG n (S.drop r) r g) ∧ Hid (Row w wr w.heap.size n g)) (fun i _ => n - (intOf i).toNat)
      case atStart => exact ⟨0, _, Nat.zero_le _, rfl, HG1.out, HR.out⟩
      case round =>
        clear HG1 HR
        obtain ⟨r, g2, hrn, rfl, hg, hr⟩ := hrel
        have HR := hr
        by_cases hlt2 : r < n
        · obtain ⟨x, hx⟩ := get_of_lt (l := S) (k := r) (by have := HSL.out; omega)
          obtain rfl := has (by intro h; rw [h] at hx; simp at hx)
          have q0 := intC_keeps _ _ _ _ _ hr.out.hb (HS.out r x hx)
          unfold IntC at q0
          rw [Nat.mul_one] at q0
          have hrI : (r : Int) < (n : Int) := by omega
          have HG2 : Hid (G = rdG n (S.drop (r + 1)) (r + 1) (if inN n x then setG g2 r (g2 x.toNat) else g2)) := hg.out.trans (by rw [drop_cons hx]; rfl)
          clear hg hr hx
          by_cases hin : 0 ≤ x ∧ x < (n : Int)
          · obtain ⟨hx0, hxn⟩ := hin
            obtain ⟨a, rfl⟩ := Int.eq_ofNat_of_zero_le hx0
            have han : a < n := by omega
            have HG3 : Hid (G = rdG n (S.drop (r + 1)) (r + 1) (setG g2 r (g2 a))) := HG2.out.trans (by rw [if_pos (inN_yes han), Int.toNat_natCast])
            have HR2 : Hid (Row w (wr.setCell ⟨w.heap.size, r, none⟩ (.int .i64 (g2 a))) w.heap.size n (setG g2 r (g2 a))) := HR.out.setG r _
            have t0 := HR.out.row.cell han
            have t1 := HR.out.row.cell hlt2
            have z0 := HR.out.row.frozen r
            have s0 := HR.out.row.lt
            clear HR HG2
            go_wp2_with fail
            go_roundw
            case measure => simp [intOf]; omega
            case rel => exact ⟨r + 1, _, by omega, by go_num, HG3.out, HR2.out⟩
          · have HG3 : Hid (G = rdG n (S.drop (r + 1)) (r + 1) g2) := HG2.out.trans (by rw [if_neg (by rw [inN_no hin]; simp)])
            clear HG2
            cases hx0 : decide (0 ≤ x)
            · go_wp2_with fail
              go_roundw
              case measure => simp [intOf]; omega
              case rel => exact ⟨r + 1, _, by omega, by go_num, HG3.out, HR.out⟩
            · have hxn : decide (x < (n : Int)) = false := by
                rw [decide_eq_false_iff_not]
                intro h
                simp only [decide_eq_true_eq] at hx0
                exact hin ⟨hx0, h⟩
              go_wp2_with fail
              go_roundw
              case measure => simp [intOf]; omega
              case rel => exact ⟨r + 1, _, by omega, by go_num, HG3.out, HR.out⟩
        · have HG2 : Hid (g2 = G) := (hg.out.trans (by rw [drop_nil (by have := HSL.out; omega)]; rfl)).symm
          have hrI : (n : Int) ≤ (r : Int) := by omega
          have HR2 : Hid (Row w wr w.heap.size n G) := by rw [← HG2.out]; exact HR.out
          clear hg hr HR
          go_wp2_with fail
          go_ret
          exact ⟨rfl, HR2.out⟩

end Go.Proofs.YtomijmikkbhgmaaGreat
