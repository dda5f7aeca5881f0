import Derived.Test.YtomijmikkbhgmaaGreatT19
import Derived.Test.YtomijmikkbhgmaaGreatT7
import Derived.Test.YtomijmikkbhgmaaGreatT16
namespace Go.Proofs.YtomijmikkbhgmaaGreat
open Go.RowKit

theorem Row.grown {w wr w1 : World} {bT n : Nat} {g : Nat → Int} {row : Option Nat} (h : Row w wr bT n g) (hg : wr.grownBy w1 row) (hr : ∀ k, row = some k → bT < k) : Row w w1 bT n g :=
  ⟨Below.grown h.hb hg h.hb.size (fun k e => by have := hr k e; have := h.n1; omega), h.row.of_block (hg.block bT h.row.lt (fun e => by have := hr bT e.symm; omega)), h.n1⟩

/-- A list of numbers that the call itself makes. -/
def IntRow (B : Nat) (w : World) (v : Value) (l : List Int) : Prop := w.ownsRow B 3 1 v l.length (l.map (Value.int .i64))

theorem IntRow.form {B : Nat} {w : World} {v : Value} {l : List Int} (h : IntRow B w v l) : ∃ ao b cap, v = .slice ao l.length cap ∧ (l ≠ [] → ao = some ⟨b, 0, none⟩) ∧ B ≤ b ∧ ∀ k x, l[k]? = some x → w.cell? ⟨b, k, none⟩ = some (.int .i64 x) := by
  rcases h.2 with ⟨rfl, hn⟩ | ⟨g, cap, cur, rfl, hg, hh, _⟩
  · have : l = [] := List.eq_nil_of_length_eq_zero hn
    subst this
    exact ⟨none, B, 0, rfl, fun h => absurd rfl h, Nat.le_refl _, fun k x h => by simp at h⟩
  · refine ⟨_, g, cap, rfl, fun _ => rfl, hg, fun k x hx => ?_⟩
    have := h.cells (g := g) rfl k (.int .i64 x) (by rw [List.getElem?_map, hx]; rfl)
    rw [Addr.add_lit] at this
    simpa using this

theorem IntRow.setCell {B : Nat} {w : World} {v : Value} {l : List Int} (h : IntRow B w v l) {b o : Nat} (hb : b < B) (u : Value) : IntRow B (w.setCell ⟨b, o, none⟩ u) v l :=
  own_other h (fun g hg => Below.heap_setCell w ⟨b, o, none⟩ u g (by have := (h.lt g hg).1; simp; omega))

/-- The counts, when of the event d of the row F the arrows to those below t have gone. -/
def kG (A : List (Int × Int)) (n : Nat) (F : List Int) (d t j : Nat) : Int := (cnt A n (F.take (if j < t then d + 1 else d)) j : Nat)
theorem kG_ge (A : List (Int × Int)) (n : Nat) (F : List Int) (d t : Nat) : kG A n F d t t = (cnt A n (F.take d) t : Nat) := by unfold kG; rw [if_neg (by omega)]
theorem kG_same {A : List (Int × Int)} {n : Nat} {F : List Int} {d t : Nat} (h : cnt A n (F.take (d + 1)) t = cnt A n (F.take d) t) (j : Nat) : kG A n F d t j = kG A n F d (t + 1) j := by
  unfold kG
  by_cases e : j = t
  · subst e; rw [if_neg (by omega), if_pos (by omega), h]
  · by_cases e2 : j < t
    · rw [if_pos e2, if_pos (by omega)]
    · rw [if_neg e2, if_neg (by omega)]
theorem kG_less {A : List (Int × Int)} {n : Nat} {F : List Int} {d t : Nat} (j : Nat) : (if j = t then ((cnt A n (F.take (d + 1)) t : Nat) : Int) else kG A n F d t j) = kG A n F d (t + 1) j := by
  unfold kG
  by_cases e : j = t
  · subst e; rw [if_pos rfl, if_pos (by omega)]
  · rw [if_neg e]
    by_cases e2 : j < t
    · rw [if_pos e2, if_pos (by omega)]
    · rw [if_neg e2, if_neg (by omega)]
theorem kG_more {A : List (Int × Int)} {n : Nat} {F : List Int} {d t : Nat} {x : Int} (hd : d < F.length) (j : Nat) : kG A n F d t j = kG A n (F ++ [x]) d t j := by
  unfold kG
  rw [List.take_append_of_le_length (by split <;> omega)]

set_option maxRecDepth 20000 in
set_option maxHeartbeats 4000000 in
theorem hasCircle_any (n : Nat) (hn : n ≤ 96) (A : List (Int × Int)) (p bl : Nat) (w : World) (h : SetAt w p bl n A) :
    Calls Tryz.prog 104 #[.pointer (some ⟨p, 0, none⟩)] w fun e w' => ∃ b : Bool, e = .returned (.bool b) ∧ (b = true ↔ Cyc n A) ∧ Below w.heap.size w w' := by
  have HS : Hid (SetAt w p bl n A) := h
  clear h
  have hsq := sq_le hn
  obtain ⟨i0, hi, hz0, hz1, hz2⟩ := info_parts Tryz.info3
  have HI : Hid (Tryz.prog.info? 3 = some i0 ∧ i0.zero = some (.int .i64 0) ∧ i0.size = 1 ∧ i0.bytes = 8) := ⟨hi, hz0, hz1, hz2⟩
  clear hi hz0 hz1 hz2
  go_enter Tryz.func104, Tryz.ntmps104
  go_wp2_with fail
  refine (countInto_any n hn A p bl w HS.out).mono ?_
  rintro e w1 ⟨rfl, hrow⟩
  have HR : Hid (Row w w1 w.heap.size n (fun j => (inTo A n j : Nat))) := hrow
  clear hrow
  go_wp2_with fail
  go_loopw [4, 13] (fun u i wr => ∃ k : Nat, k ≤ n ∧ i = .int .i64 k ∧ Hid (IntRow (w.heap.size + 1) wr u (noneIn A n k)) ∧ Hid (Row w wr w.heap.size n (fun j => (inTo A n j : Nat)))) (fun _ i _ => n - (intOf i).toNat)
  case atStart => exact ⟨0, Nat.zero_le _, rfl, World.ownsRow_nil _ _ _ _, HR.out⟩
  case round =>
    clear HR
    obtain ⟨k, hk, rfl, hown, hrow⟩ := hrel
    have HO := hown
    have HR := hrow
    by_cases hlt : k < n
    · have hkI : (k : Int) < (n : Int) := by omega
      have t0 := hrow.out.row.cell hlt
      have s0 := hrow.out.row.lt
      have hln := noneIn_len A n k
      clear hown hrow
      by_cases hz : inTo A n k = 0
      · have HN : Hid (noneIn A n (k + 1) = noneIn A n k ++ [(k : Int)]) := noneIn_yes hz
        rw [hz] at t0
        generalize noneIn A n k = xs at HO hln HN
        go_wp2_with (at_builtin; refine append_new _ rfl _ _ 26 rfl (w.heap.size + 1) 3 i0 (.int .i64 0) 1 8 Tryz.underlying26 HI.out.1 HI.out.2.1 HI.out.2.2.1 HI.out.2.2.2 rfl (by decide) _ xs.length (xs.map (Value.int .i64)) rfl (HO.out.alloc _) (some ⟨wr.heap.size, 0, none⟩) 1 1 [.int .i64 k] rfl (fun h => by cases h) rfl (fun ad had => by cases had; exact new_one rfl) (by simp [Value.oneCell']) (by unfold maxLen; omega) (by omega) (by simp; omega) ?_)
        intro u' w2 hown' hgrow _
        have HO2 : Hid (IntRow (w.heap.size + 1) w2 u' (noneIn A n (k + 1))) := by rw [HN.out]; exact own_snoc hown'
        have HR2 : Hid (Row w w2 w.heap.size n (fun j => (inTo A n j : Nat))) := (HR.out.alloc _).grown hgrow (fun kk e => by have := (HO.out.lt kk e).1; omega)
        clear hgrow hown' HO HR
        go_wp2_with fail
        go_roundw
        case measure => simp [intOf]; omega
        case rel => exact ⟨k + 1, by omega, by go_num, HO2.out, HR2.out⟩
      · have HN : Hid (noneIn A n (k + 1) = noneIn A n k) := noneIn_no hz
        have hz2 : (((inTo A n k : Nat) : Int) == 0) = false := by simp; exact hz
        go_wp2_with fail
        go_roundw
        case measure => simp [intOf]; omega
        case rel => exact ⟨k + 1, by omega, by go_num, by rw [HN.out]; exact HO.out, HR.out⟩
    · have hkn : k = n := by omega
      subst hkn
      have HK : Hid (Kahn k A (noneIn A k k) 0 0) := Kahn.start k A
      have HR2 : Hid (Row w wr w.heap.size k (kG A k (noneIn A k k) 0 0)) := HR.out.congr fun j hj => by unfold kG; rw [if_neg (by omega), List.take_zero, cnt_nil]
      generalize noneIn A k k = F0 at HO HK HR2
      clear hown hrow HR hlt hk
      go_wp2_with fail
      go_loopw [4, 7] (fun u i wr => ∃ (d : Nat) (F : List Int) (ao : Option Addr) (cap : Nat), d ≤ F.length ∧ F.length ≤ k ∧ i = .int .i64 d ∧ u = .slice ao F.length cap ∧ Hid (Kahn k A F d 0) ∧ Hid (IntRow (w.heap.size + 1) wr (.slice ao F.length cap) F) ∧ Hid (Row w wr w.heap.size k (kG A k F d 0))) (fun _ i _ => k - (intOf i).toNat)
      case atStart =>
        obtain ⟨ao, b, cap, hv, _⟩ := HO.out.form
        exact ⟨0, F0, ao, cap, Nat.zero_le _, HK.out.len, rfl, hv, HK.out, by rw [← hv]; exact HO.out, HR2.out⟩
      case round =>
        clear HK HR2 HO
        obtain ⟨d, F, ao, cap, hd, hF, rfl, rfl, hkahn, hown, hrow⟩ := hrel
        have HK := hkahn
        have HO := hown
        have HR := hrow
        clear hkahn hown hrow
        by_cases hdF : d < F.length
        · obtain ⟨x, hx⟩ := get_of_lt hdF
          obtain ⟨e, he, rfl⟩ := HK.out.nat x (List.mem_of_getElem? hx)
          have HX : Hid (F[d]? = some (e : Int)) := hx
          have hdI : (d : Int) < (F.length : Int) := by omega
          clear hx
          go_wp2_with fail
          clear hdI
          go_loopw [4, 8] (fun u i wr => ∃ (t : Nat) (F : List Int) (ao : Option Addr) (cap : Nat), t ≤ k ∧ d < F.length ∧ F.length ≤ k ∧ i = .int .i64 t ∧ u = .slice ao F.length cap ∧ Hid (F[d]? = some (e : Int)) ∧ Hid (Kahn k A F d t) ∧ Hid (IntRow (w.heap.size + 1) wr (.slice ao F.length cap) F) ∧ Hid (Row w wr w.heap.size k (kG A k F d t))) (fun _ i _ => k - (intOf i).toNat)
          case atStart => exact ⟨0, F, ao, cap, Nat.zero_le _, hdF, hF, rfl, rfl, HX.out, HK.out, HO.out, HR.out⟩
          case round =>
            clear HK HO HR HX hdF hF hd
            obtain ⟨t, F, ao, cap, ht, hdF, hF, rfl, rfl, hx, hkahn, hown, hrow⟩ := hrel
            have HK := hkahn
            have HO := hown
            have HR := hrow
            have HX := hx
            obtain ⟨c0, c1, hm, _⟩ := HS.out.keep hrow.out.hb
            by_cases htk : t < k
            · have htI : (t : Int) < (k : Int) := by omega
              have hdI : (d : Int) < (F.length : Int) := by omega
              obtain ⟨aoF, bF, capF, hvF, haF, hbF, hcF⟩ := hown.out.form
              simp only [Value.slice.injEq] at hvF
              obtain ⟨rfl, _, rfl⟩ := hvF
              obtain rfl := haF (ne_nil hdF)
              have f0 := hcF d _ hx.out
              have hq : e * k + t < k * k := by
                have : (e + 1) * k ≤ k * k := Nat.mul_le_mul_right k he
                rw [Nat.add_mul] at this; omega
              have e1 : (e : Int) * (k : Int) = ((e * k : Nat) : Int) := by simp
              have hqI : ((e * k : Nat) : Int) + (t : Int) = ((e * k + t : Nat) : Int) := by omega
              have r0 := hm.cell he htk
              have t0 := hrow.out.row.cell htk
              have z0 := hrow.out.row.frozen t
              have s0 := hrow.out.row.lt
              rw [kG_ge] at t0
              have hle := cnt_le A k (F.take d) t
              generalize e * k + t = q at hq hqI r0
              generalize e * k = m at e1 hqI
              generalize k * k = N at hq hsq c1
              have hqN : (q : Int) < (N : Int) := by omega
              have hm0 : (m : Int) ≤ 9216 := by omega
              have hw1 : IntKind.i64.wrap (m : Int) = (m : Int) := by rw [IntKind.wrap_i64]; omega
              have hw2 : IntKind.i64.wrap (q : Int) = (q : Int) := by rw [IntKind.wrap_i64]; omega
              clear hown hrow hm hkahn hcF haF hx
              cases hab : arwB A e t
              · rw [hab] at r0
                obtain ⟨hk2, hc2⟩ := HK.out.no HX.out hab
                have HK2 : Hid (Kahn k A F d (t + 1)) := hk2
                have HR2 : Hid (Row w wr w.heap.size k (kG A k F d (t + 1))) := HR.out.congr fun j _ => kG_same hc2 j
                clear hk2 hc2 HR HK
                go_wp2_with fail
                go_quiet (fail)
                go_wp2_with fail
                go_roundw
                case measure => simp [intOf]; omega
                case rel => exact ⟨t + 1, F, _, cap, by omega, hdF, hF, by go_num, rfl, HX.out, HK2.out, HO.out, HR2.out.drewN _⟩
              · rw [hab] at r0
                obtain ⟨hc1, hk1, hk0⟩ := HK.out.more HX.out htk hab
                rw [hc1] at t0
                have HR2 : Hid (∀ nq, Row w ((wr.drewN nq).setCell ⟨w.heap.size, t, none⟩ (.int .i64 (cnt A k (F.take (d + 1)) t : Nat))) w.heap.size k (kG A k F d (t + 1))) := fun nq => (HR.out.drewN nq).set t _ fun j _ => kG_less j
                have HO2 : Hid (∀ nq, IntRow (w.heap.size + 1) ((wr.drewN nq).setCell ⟨w.heap.size, t, none⟩ (.int .i64 (cnt A k (F.take (d + 1)) t : Nat))) (.slice (some ⟨bF, 0, none⟩) F.length cap) F) := fun nq => IntRow.setCell (w := wr.drewN nq) HO.out (by omega) _
                have HK1 : Hid (cnt A k (F.take (d + 1)) t ≠ 0 → Kahn k A F d (t + 1)) := hk1
                have HK0 : Hid (cnt A k (F.take (d + 1)) t = 0 → Kahn k A (F ++ [(t : Int)]) d (t + 1)) := hk0
                have hle2 : cnt A k (F.take (d + 1)) t + 1 ≤ k := by omega
                clear hc1 hk1 hk0 hle HR HO HK
                generalize cnt A k (F.take (d + 1)) t = c at t0 HR2 HO2 HK1 HK0 hle2
                rw [show (((c + 1 : Nat) : Int)) = (c : Int) + 1 by omega] at t0
                cases c with
                | zero =>
                  have HK2 : Hid (Kahn k A (F ++ [(t : Int)]) d (t + 1)) := HK0.out rfl
                  have hl2 : F.length + 1 ≤ k := by have := HK2.out.len; simpa using this
                  go_wp2_with fail
                  go_quiet (fail)
                  go_wp2_with (at_builtin; refine append_new _ rfl _ _ 26 rfl (w.heap.size + 1) 3 i0 (.int .i64 0) 1 8 Tryz.underlying26 HI.out.1 HI.out.2.1 HI.out.2.2.1 HI.out.2.2.2 rfl (by decide) _ F.length (F.map (Value.int .i64)) rfl ((HO2.out _).alloc _) (some ⟨wr.heap.size, 0, none⟩) 1 1 [.int .i64 t] rfl (fun h => by cases h) rfl (fun ad had => by cases had; exact new_one (by simp)) (by simp [Value.oneCell']) (by unfold maxLen; omega) (by omega) (by simp; omega) ?_)
                  intro u' w2 hown' hgrow _
                  have HO3 : Hid (IntRow (w.heap.size + 1) w2 u' (F ++ [(t : Int)])) := own_snoc hown'
                  have HR3 : Hid (Row w w2 w.heap.size k (kG A k (F ++ [(t : Int)]) d (t + 1))) := (((HR2.out _).alloc _).grown hgrow (fun kk e => by have := ((HO2.out 0).lt kk e).1; omega)).congr fun j _ => kG_more hdF j
                  have HX3 : Hid ((F ++ [(t : Int)])[d]? = some (e : Int)) := by show (F ++ [(t : Int)])[d]? = some (e : Int); rw [List.getElem?_append_left hdF]; exact HX.out
                  clear hgrow hown' HR2 HO2 HK0 HK1
                  obtain ⟨ao3, b3, cap3, hv3, _⟩ := HO3.out.form
                  have hlen3 : (F ++ [(t : Int)]).length = F.length + 1 := by simp
                  subst hv3
                  go_wp2_with fail
                  go_roundw
                  case measure => simp [intOf]; omega
                  case rel => exact ⟨t + 1, F ++ [(t : Int)], ao3, cap3, by omega, by omega, by omega, by go_num, rfl, HX3.out, HK2.out, HO3.out, HR3.out⟩
                | succ c =>
                  have HK2 : Hid (Kahn k A F d (t + 1)) := HK1.out (by omega)
                  have hc0 : (((c + 1 : Nat) : Int) == 0) = false := by simp; omega
                  go_wp2_with fail
                  go_quiet (fail)
                  go_wp2_with fail
                  go_roundw
                  case measure => simp [intOf]; omega
                  case rel => exact ⟨t + 1, F, _, cap, by omega, hdF, hF, by go_num, rfl, HX.out, HK2.out, HO2.out _, HR2.out _⟩
            · have htk2 : t = k := by omega
              subst htk2
              have HK2 : Hid (Kahn t A F (d + 1) 0) := HK.out.next
              have HR2 : Hid (Row w wr w.heap.size t (kG A t F (d + 1) 0)) := HR.out.congr fun j hj => by unfold kG; rw [if_pos hj, if_neg (by omega)]
              clear hown hrow hm hkahn HK HR
              go_wp2_with fail
              go_roundw
              case measure => simp [intOf]; omega
              case rel => exact ⟨d + 1, F, ao, cap, by omega, hF, by go_num, rfl, HK2.out, HO.out, HR2.out⟩
        · have hL := HK.out.last (by omega)
          have hb := HR.out.hb
          obtain ⟨c0, c1, hm, _⟩ := HS.out.keep hb
          have hdI : (F.length : Int) ≤ (d : Int) := by omega
          have HL : Hid (decide ((F.length : Int) < (k : Int)) = true ↔ Cyc k A) := hL
          clear hL hm
          go_wp2_with fail
          go_ret
          exact ⟨_, rfl, by rw [← HL.out]; simp, hb⟩

end Go.Proofs.YtomijmikkbhgmaaGreat

namespace Go.Proofs.YtomijmikkbhgmaaGreat
open Go.RowKit

/-- Event by event, from which Write it reads. -/
def srcL : List Evt → List Int → List Int
  | [], _ => []
  | y :: E, F => if y.kind == 0 then (match F with
    | [] => -1 :: srcL E []
    | f :: F => f :: srcL E F) else -1 :: srcL E F

theorem srcL_len (E : List Evt) (F : List Int) : (srcL E F).length = E.length := by
  induction E generalizing F with
  | nil => rfl
  | cons y E ih =>
    unfold srcL
    split
    · split <;> simp [ih]
    · simp [ih]
theorem srcL_not {y : Evt} (h : (y.kind == 0) = false) (E : List Evt) (F : List Int) : srcL (y :: E) F = -1 :: srcL E F := by simp [srcL, h]
theorem srcL_out {y : Evt} (h : (y.kind == 0) = true) (E : List Evt) : srcL (y :: E) [] = -1 :: srcL E [] := by simp [srcL, h]
theorem srcL_read {y : Evt} (h : (y.kind == 0) = true) (E : List Evt) (f : Int) (F : List Int) : srcL (y :: E) (f :: F) = f :: srcL E F := by simp [srcL, h]

theorem getD_drop {S : List Int} {k : Nat} {a : Int} {l : List Int} (h : S.drop k = a :: l) : S.getD k 0 = a ∧ S.drop (k + 1) = l := by
  have h1 : (S.drop k)[0]? = some a := by rw [h]; rfl
  rw [List.getElem?_drop, Nat.add_zero] at h1
  refine ⟨by rw [List.getD, h1]; rfl, ?_⟩
  have : S.drop (k + 1) = (S.drop k).drop 1 := by rw [List.drop_drop, Nat.add_comm]
  rw [this, h]; rfl

/-- The first k entries of a list, and noughts. -/
def upG (S : List Int) (k j : Nat) : Int := if j < k then S.getD j 0 else 0
theorem upG_step {S : List Int} {k : Nat} {a : Int} (h : S.getD k 0 = a) (j : Nat) : (if j = k then a else upG S k j) = upG S (k + 1) j := by
  unfold upG
  by_cases e : j = k
  · subst e; rw [if_pos rfl, if_pos (by omega), h]
  · rw [if_neg e]
    by_cases e2 : j < k
    · rw [if_pos e2, if_pos (by omega)]
    · rw [if_neg e2, if_neg (by omega)]

/-- A row read as a list. -/
theorem Row.list {w wr : World} {bT n : Nat} {g : Nat → Int} (h : Row w wr bT n g) : IntAt wr (.slice (some ⟨bT, 0, none⟩) n n) ((List.range n).map g) := by
  refine ⟨_, bT, 0, n, by simp, fun _ => rfl, fun h => by simp at h, fun k x hx => ?_⟩
  have hk : k < n := by have := (List.getElem?_eq_some_iff.1 hx).1; simpa using this
  have hg : g k = x := by simpa [hk] using hx
  have := h.row.cell hk
  unfold IntC
  rw [Nat.mul_one, Nat.zero_add, ← hg]; exact this

set_option maxRecDepth 20000 in
set_option maxHeartbeats 1000000 in
theorem sourcesJ_any (E : List Evt) (hE : E.length ≤ 96) (F : List Int) (hF : F.length ≤ 96) (v vf : Value) (w : World) (h : Ev4At w v E) (hf : IntAt w vf F) :
    Calls Tryz.prog 73 #[v, vf] w fun e w' => e = .returned (.slice (some ⟨w.heap.size, 0, none⟩) E.length E.length) ∧ Row w w' w.heap.size E.length (fun j => (srcL E F).getD j 0) := by
  obtain ⟨ao, b, off, cap, hv, ha, _, hc⟩ := h
  obtain ⟨aof, bf, offf, capf, hvf, haf, _, hcf⟩ := hf
  subst hv hvf
  have HC : Hid (∀ k y, E[k]? = some y → Ev4C w b (off + k * 4) y) := hc
  have HF : Hid (∀ k a, F[k]? = some a → IntC w bf (offf + k * 1) a) := hcf
  have hmk := run_make_row' (P := Tryz.prog) 26 3 (.int .i64 0) 8 Tryz.underlying26 Tryz.info3 rfl .i64 .i64 E.length (by omega) (by omega)
  have HS : Hid (srcL (E.drop 0) (F.drop 0) = (srcL E F).drop 0) := rfl
  generalize srcL E F = S at HS ⊢
  have HG0 : Hid (Row w (w.alloc (.cells (madeCells #[.int .i64 0] E.length) 3)) w.heap.size E.length (upG S 0)) := ⟨below_alloc _ _, World.rowIs_made w (.int .i64 0) E.length 3, Nat.le_refl _⟩
  clear hc hcf
  go_enter Tryz.func73, Tryz.ntmps73
  go_wp2_with fail
  clear hmk
  go_loopw [6, 14] (fun u i wr => ∃ (k c : Nat), k ≤ E.length ∧ c ≤ k ∧ i = .int .i64 k ∧ u = .int .i64 c ∧ Hid (srcL (E.drop k) (F.drop c) = S.drop k) ∧ Hid (Row w wr w.heap.size E.length (upG S k))) (fun _ i _ => E.length - (intOf i).toNat)
  case atStart => exact ⟨0, 0, Nat.zero_le _, Nat.zero_le _, rfl, rfl, HS.out, HG0.out⟩
  case round =>
    clear HS HG0
    obtain ⟨k, n, hk, hnk, rfl, rfl, hs, hr⟩ := hrel
    have HR := hr
    by_cases hlt : k < E.length
    · obtain ⟨y, hy⟩ := get_of_lt hlt
      obtain rfl := ha (ne_nil hlt)
      obtain ⟨c0, c1, c2, c3⟩ := ev4C_keeps _ _ _ _ _ hr.out.hb (HC.out k y hy)
      have hkI : (k : Int) < (E.length : Int) := by omega
      have m0 := World.block_lt_of_cell? _ _ c0
      simp only at m0
      have t0 := hr.out.row.cell hlt
      have z0 := hr.out.row.frozen k
      have s0 := hr.out.row.lt
      have s1 : w.heap.size < wr.heap.size + 1 := by omega
      have hS0 : S.drop k = srcL (y :: E.drop (k + 1)) (F.drop n) := by rw [← hs.out, drop_cons hy]
      clear hs hr hy
      cases h0 : y.kind == 0
      · have hS1 : S.drop k = -1 :: srcL (E.drop (k + 1)) (F.drop n) := hS0.trans (srcL_not h0 _ _)
        obtain ⟨g1, g2⟩ := getD_drop hS1
        have HS2 : Hid (srcL (E.drop (k + 1)) (F.drop n) = S.drop (k + 1)) := g2.symm
        have HR2 : Hid (Row w (wr.setCell ⟨w.heap.size, k, none⟩ (.int .i64 (-1))) w.heap.size E.length (upG S (k + 1))) := HR.out.set k _ fun j _ => upG_step g1 j
        clear hS0 hS1 g1 g2 HR
        go_wp2_with fail
        go_roundw
        case measure => simp [intOf]; omega
        case rel => exact ⟨k + 1, n, by omega, by omega, by go_num, rfl, HS2.out, HR2.out.alloc _⟩
      · by_cases hnF : n < F.length
        · obtain ⟨f, hf⟩ := get_of_lt hnF
          obtain rfl := haf (ne_nil hnF)
          have q0 := intC_keeps _ _ _ _ _ HR.out.hb (HF.out n f hf)
          unfold IntC at q0
          rw [Nat.mul_one] at q0
          have m1 := World.block_lt_of_cell? _ _ q0
          have m2 := World.block_lt_of_cell? _ _ (HF.out n f hf)
          simp only at m1 m2
          have mne : bf ≠ w.heap.size := by omega
          have hS1 : S.drop k = f :: srcL (E.drop (k + 1)) (F.drop (n + 1)) := hS0.trans (by rw [drop_cons hf, srcL_read h0])
          obtain ⟨g1, g2⟩ := getD_drop hS1
          have hnI : (n : Int) < (F.length : Int) := by omega
          have HS2 : Hid (srcL (E.drop (k + 1)) (F.drop (n + 1)) = S.drop (k + 1)) := g2.symm
          have HR1 : Hid (Row w (wr.setCell ⟨w.heap.size, k, none⟩ (.int .i64 (-1))) w.heap.size E.length (fun j => if j = k then -1 else upG S k j)) := HR.out.set k _ fun j _ => rfl
          have HR2 : Hid (Row w ((wr.setCell ⟨w.heap.size, k, none⟩ (.int .i64 (-1))).setCell ⟨w.heap.size, k, none⟩ (.int .i64 f)) w.heap.size E.length (upG S (k + 1))) := HR1.out.set k _ fun j _ => by
            rw [← upG_step g1 j]
            by_cases e : j = k
            · rw [if_pos e, if_pos e]
            · rw [if_neg e, if_neg e, if_neg e]
          have HR3 : Hid (Row w (wr.setCell ⟨w.heap.size, k, none⟩ (.int .i64 f)) w.heap.size E.length (upG S (k + 1))) := HR.out.set k _ fun j _ => upG_step g1 j
          clear hS0 hS1 g1 g2 HR hf
          go_wp2_with fail
          go_roundw
          case measure => simp [intOf]; omega
          case rel => exact ⟨k + 1, n + 1, by omega, by omega, by go_num, by go_num, HS2.out, by first | exact HR2.out.alloc _ | exact HR3.out.alloc _⟩
        · have hd : F.drop n = [] := drop_nil hnF
          have hS1 : S.drop k = -1 :: srcL (E.drop (k + 1)) (F.drop n) := hS0.trans (by rw [hd, srcL_out h0])
          obtain ⟨g1, g2⟩ := getD_drop hS1
          have hnI : (F.length : Int) ≤ (n : Int) := by omega
          have hnd : decide ((n : Int) < (F.length : Int)) = false := by rw [decide_eq_false_iff_not]; omega
          have HS2 : Hid (srcL (E.drop (k + 1)) (F.drop n) = S.drop (k + 1)) := g2.symm
          have HR2 : Hid (Row w (wr.setCell ⟨w.heap.size, k, none⟩ (.int .i64 (-1))) w.heap.size E.length (upG S (k + 1))) := HR.out.set k _ fun j _ => upG_step g1 j
          clear hS0 hS1 g1 g2 HR hd
          go_wp2_with fail
          go_roundw
          case measure => simp [intOf]; omega
          case rel => exact ⟨k + 1, n, by omega, by omega, by go_num, rfl, HS2.out, HR2.out.alloc _⟩
    · have HR2 : Hid (Row w wr w.heap.size E.length (fun j => S.getD j 0)) := HR.out.congr fun j hj => by unfold upG; rw [if_pos (by omega)]
      have hkI : (E.length : Int) ≤ (k : Int) := by omega
      clear hs hr HR
      go_wp2_with fail
      go_ret
      exact ⟨rfl, HR2.out⟩

end Go.Proofs.YtomijmikkbhgmaaGreat
