import Derived.Test.YtbmlmplbhgahpaaLa
import Derived.Deep.Light
namespace Go.Proofs.Ytbmlmplbhgahpaa
open Go.RowKit

/-- The cells of a new block of two, behind whatever is made later. -/
theorem own2 {w w3 : World} {a b : Value} {t : TypeId} (hb : Below (w.heap.size + 1) (w.alloc (.cells #[a, b] t)) w3) :
    w3.cell? ⟨w.heap.size, 0, none⟩ = some a ∧ w3.cell? ⟨w.heap.size, 1, none⟩ = some b ∧ w3.frozen? ⟨w.heap.size, 0, none⟩ = false ∧ w3.frozen? ⟨w.heap.size, 1, none⟩ = false ∧ w.heap.size < w3.heap.size := by
  have h1 := hb.cell (p := ⟨w.heap.size, 0, none⟩) (by simp)
  have h2 := hb.cell (p := ⟨w.heap.size, 1, none⟩) (by simp)
  have h3 := hb.frozen (p := ⟨w.heap.size, 0, none⟩) (by simp)
  have h4 := hb.frozen (p := ⟨w.heap.size, 1, none⟩) (by simp)
  have h5 := hb.size
  simp at h1 h2 h3 h4 h5
  exact ⟨h1, h2, h3, h4, by omega⟩

/-- A test by value: the threads' slice, Forall, the condition's slice. -/
structure TestAt (w : World) (v : Value) (T : List (List Ins)) (fa : Bool) (c : List Atm) (vt vc : Value) : Prop where
  hv : v = .agg #[vt, .bool fa, vc]
  ht : ThrAt w vt T
  hc : AtmAt w vc c

theorem TestAt.keep {w w' : World} {v : Value} {T : List (List Ins)} {fa : Bool} {c : List Atm} {vt vc : Value} (h : TestAt w v T fa c vt vc) (hb : Below w.heap.size w w') : TestAt w' v T fa c vt vc := ⟨h.hv, h.ht.keep hb, h.hc.keep hb⟩

theorem sizeB_no (T : List (List Ins)) (c : List Atm) (h : T.length < 1 ∨ 4 < T.length) : sizeB T c = false := by
  unfold sizeB; rcases h with h | h <;> simp <;> omega

theorem sizeB_noc (T : List (List Ins)) (c : List Atm) (h : 6 < c.length) : sizeB T c = false := by
  unfold sizeB; simp; omega

theorem sizeB_yes (T : List (List Ins)) (c : List Atm) (h1 : 1 ≤ T.length) (h2 : T.length ≤ 4) (h3 : c.length ≤ 6) : sizeB T c = lensB T := by
  unfold sizeB; simp [h1, h2, h3]

set_option maxHeartbeats 1000000 in
theorem sizes_any (T : List (List Ins)) (fa : Bool) (c : List Atm) (v vt vc : Value) (w : World) (h : TestAt w v T fa c vt vc) :
    Calls Try.prog 25 #[v] w fun e w' => e = .returned (.bool (sizeB T c)) ∧ Below w.heap.size w w' := by
  obtain ⟨hv, ht, ⟨hc0, ao', b', off', cap', hcv, _, _, _⟩⟩ := h
  obtain ⟨ht0, ao, b, off, cap, htv, hta, _, htc⟩ := ht.opened
  subst hv htv hcv
  by_cases hsz : T.length < 1 ∨ 4 < T.length
  · rw [sizeB_no T c hsz]
    rcases hsz with hsz | hsz
    all_goals
      go_enter Try.func25, Try.ntmps25
      go_wp2_with fail
      go_ret
      exact ⟨rfl, below_alloc _ _⟩
  · by_cases hcl : 6 < c.length
    · rw [sizeB_noc T c hcl]
      have h1 : 1 ≤ T.length := by omega
      have h2 : T.length ≤ 4 := by omega
      clear hsz
      go_enter Try.func25, Try.ntmps25
      go_wp2_with fail
      go_ret
      exact ⟨rfl, below_alloc _ _⟩
    · have h1 : 1 ≤ T.length := by omega
      have h2 : T.length ≤ 4 := by omega
      have h3 : c.length ≤ 6 := by omega
      rw [sizeB_yes T c h1 h2 h3]
      clear hsz hcl
      go_enter Try.func25, Try.ntmps25
      go_wp2_with fail
      go_loop [3] (fun i => ∃ k : Nat, k ≤ T.length ∧ i = .int .i64 k ∧ Hid (lensB T = lensB (T.drop k))) (fun i => T.length - (intOf i).toNat)
      case atStart => exact ⟨0, Nat.zero_le _, rfl, rfl⟩
      case round =>
        obtain ⟨k, hk, rfl, hn⟩ := hrel
        by_cases hlt : k < T.length
        · obtain ⟨l, hx⟩ := get_of_lt hlt
          obtain ⟨hbl, ao2, cap2, c0, hil⟩ := htc k l hx
          obtain rfl := hta (ne_nil hlt)
          have HN : Hid (lensB T = lensB (l :: T.drop (k + 1))) := by rw [← drop_cons hx]; exact hn
          have hl0 : l.length * 40 ≤ 140737488351232 := hil.1
          clear htc hx hn hta hil ht
          go_wp2_with fail
          · go_ret
            exact ⟨ret_bool (by rw [HN.out]; simp [lensB]; omega), below_alloc _ _⟩
          · go_round
            case measure => simp [intOf]; omega
            case rel => exact ⟨k + 1, by omega, by go_num, HN.out.trans (by simp [lensB]; omega)⟩
        · have HN : Hid (lensB T = lensB []) := by rw [← drop_nil hlt]; exact hn
          clear htc hn hta ht
          go_wp2_with fail
          go_ret
          exact ⟨ret_bool (by rw [HN.out]; rfl), below_alloc _ _⟩

def faultS (b : Bool) : Value := .agg #[.int .i64 (if b then 0 else 1), .int .i64 0]

set_option maxHeartbeats 1000000 in
theorem findSize_any (T : List (List Ins)) (fa : Bool) (c : List Atm) (v vt vc : Value) (w : World) (h : TestAt w v T fa c vt vc) :
    Calls Try.prog 38 #[v] w fun e w' => e = .returned (faultS (sizeB T c)) ∧ Below w.heap.size w w' := by
  obtain ⟨hv, ht, ⟨hc0, ao', b', off', cap', hcv, _, _, _⟩⟩ := h
  obtain ⟨ht0, ao, b, off, cap, htv, hta, _, htc⟩ := ht.opened
  subst hv htv hcv
  by_cases hsz : T.length < 1 ∨ 4 < T.length
  · rw [sizeB_no T c hsz]
    rcases hsz with hsz | hsz
    all_goals
      go_enter Try.func38, Try.ntmps38
      go_wp2_with fail
      exact bodyPost_ret (v := .agg #[.int .i64 1, .int .i64 0]) (by simp [results, Try.results38, go_sem]) rfl ⟨rfl, by repeat (first | exact Below.refl _ _ | assumption | refine Below.alloc ?_ (by simp; try omega) _)⟩
  · have h1 : 1 ≤ T.length := by omega
    have h2 : T.length ≤ 4 := by omega
    clear hsz
    go_enter Try.func38, Try.ntmps38
    go_wp2_with fail
    go_loop [21] (fun i => ∃ k : Nat, k ≤ T.length ∧ i = .int .i64 k ∧ Hid (lensB T = lensB (T.drop k))) (fun i => T.length - (intOf i).toNat)
    case atStart => exact ⟨0, Nat.zero_le _, rfl, rfl⟩
    case round =>
      obtain ⟨k, hk, rfl, hn⟩ := hrel
      by_cases hlt : k < T.length
      · obtain ⟨l, hx⟩ := get_of_lt hlt
        obtain ⟨hbl, ao2, cap2, c0, hil⟩ := htc k l hx
        obtain rfl := hta (ne_nil hlt)
        have HN : Hid (lensB T = lensB (l :: T.drop (k + 1))) := by rw [← drop_cons hx]; exact hn
        have hl0 : l.length * 40 ≤ 140737488351232 := hil.1
        have hbl1 : b < w.heap.size + 1 := by omega
        have hbl2 : b < w.heap.size + 1 + 1 := by omega
        clear htc hx hn hta hil ht
        by_cases hl12 : 12 < l.length
        · have HS : Hid (sizeB T c = false) := by
            have e : lensB T = false := by rw [HN.out, lensB, decide_eq_false (by omega)]; rfl
            unfold Hid sizeB; rw [e]; simp
          go_wp2_with fail
          exact bodyPost_ret (v := .agg #[.int .i64 1, .int .i64 0]) (by simp [results, Try.results38, go_sem]) rfl ⟨by rw [HS.out]; rfl, by repeat (first | exact Below.refl _ _ | assumption | refine Below.alloc ?_ (by simp; try omega) _)⟩
        · go_wp2_with fail
          go_round
          case measure => simp [intOf]; omega
          case rel => exact ⟨k + 1, by omega, by go_num, HN.out.trans (by simp [lensB]; omega)⟩
      · have HN : Hid (lensB T = true) := by rw [hn, drop_nil hlt]; rfl
        clear htc hn hta ht
        by_cases hcl : 6 < c.length
        · have HS : Hid (sizeB T c = false) := sizeB_noc T c hcl
          go_wp2_with fail
          exact bodyPost_ret (v := .agg #[.int .i64 1, .int .i64 0]) (by simp [results, Try.results38, go_sem]) rfl ⟨by rw [HS.out]; rfl, by repeat (first | exact Below.refl _ _ | assumption | refine Below.alloc ?_ (by simp; try omega) _)⟩
        · have HS : Hid (sizeB T c = true) := by rw [sizeB_yes T c h1 h2 (by omega)]; exact HN
          go_wp2_with fail
          exact bodyPost_ret (v := .agg #[.int .i64 0, .int .i64 0]) (by simp [results, Try.results38, go_sem]) rfl ⟨by rw [HS.out]; rfl, by repeat (first | exact Below.refl _ _ | assumption | refine Below.alloc ?_ (by simp; try omega) _)⟩

end Go.Proofs.Ytbmlmplbhgahpaa
