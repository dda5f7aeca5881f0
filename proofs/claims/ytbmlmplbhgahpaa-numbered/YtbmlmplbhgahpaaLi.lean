import Derived.Test.YtbmlmplbhgahpaaLh
namespace Go.Proofs.Ytbmlmplbhgahpaa
open Go.RowKit

/-- A boxed test and a second block of two, behind whatever is made later. -/
theorem own5 {w w3 : World} {x y z a b : Value} {t u : TypeId} (hb : Below (w.heap.size + 2) ((w.alloc (.cells #[x, y, z] t)).alloc (.cells #[a, b] u)) w3) :
    w3.cell? ⟨w.heap.size, 0, none⟩ = some x ∧ w3.cell? ⟨w.heap.size, 1, none⟩ = some y ∧ w3.cell? ⟨w.heap.size, 2, none⟩ = some z ∧
    w3.cell? ⟨w.heap.size + 1, 0, none⟩ = some a ∧ w3.cell? ⟨w.heap.size + 1, 1, none⟩ = some b ∧ w3.frozen? ⟨w.heap.size + 1, 0, none⟩ = false ∧ w3.frozen? ⟨w.heap.size + 1, 1, none⟩ = false ∧ w.heap.size < w3.heap.size ∧ w.heap.size + 1 < w3.heap.size := by
  have g0 := hb.cell (p := ⟨w.heap.size, 0, none⟩) (by simp)
  have g1 := hb.cell (p := ⟨w.heap.size, 1, none⟩) (by simp)
  have g2 := hb.cell (p := ⟨w.heap.size, 2, none⟩) (by simp)
  have h1 := hb.cell (p := ⟨w.heap.size + 1, 0, none⟩) (by simp)
  have h2 := hb.cell (p := ⟨w.heap.size + 1, 1, none⟩) (by simp)
  have h3 := hb.frozen (p := ⟨w.heap.size + 1, 0, none⟩) (by simp)
  have h4 := hb.frozen (p := ⟨w.heap.size + 1, 1, none⟩) (by simp)
  have h5 := hb.size
  simp at g0 g1 g2 h1 h2 h3 h4 h5
  exact ⟨g0, g1, g2, h1, h2, h3, h4, by omega, by omega⟩

set_option maxHeartbeats 1000000 in
theorem findCond_any (T : List (List Ins)) (fa : Bool) (c : List Atm) (v vt vc : Value) (w : World) (h : TestAt w v T fa c vt vc) (h2 : T.length ≤ 4) (h3 : c.length ≤ 6) :
    Calls Try.prog 41 #[v] w fun e w' => e = .returned (faultO 4 (atmF c 0 T.length)) ∧ Below w.heap.size w w' := by
  obtain ⟨hv, ht, ⟨hc0, ao', b', off', cap', hcv, hca, _, hcc⟩⟩ := h
  obtain ⟨ht0, ao, b, off, cap, htv, hta, _, htc⟩ := ht.opened
  subst hv htv hcv
  clear htc hta ht
  go_enter Try.func41, Try.ntmps41
  go_wp2_with fail
  go_loopw [8] (fun i wr => ∃ k : Nat, k ≤ c.length ∧ i = .int .i64 k ∧ Hid (atmF c 0 T.length = atmF (c.drop k) k T.length) ∧ Below (w.heap.size + 2) ((w.alloc (.cells #[.slice ao T.length cap, .bool fa, .slice ao' c.length cap'] 25)).alloc (.cells #[.int .i64 0, .int .i64 0] 54)) wr) (fun i _ => c.length - (intOf i).toNat)
  case atStart => exact ⟨0, Nat.zero_le _, rfl, rfl, Below.refl _ _⟩
  case round =>
    obtain ⟨k, hk, rfl, hn, hb⟩ := hrel
    obtain ⟨g0, g1, g2, d0, d1, f0, f1, s2, s3⟩ := own5 hb
    by_cases hlt : k < c.length
    · obtain ⟨a, hx⟩ := get_of_lt hlt
      have hC := hcc k a hx
      have hbl := hC.lt
      obtain rfl := hca (ne_nil hlt)
      have HN : Hid (atmF c 0 T.length = atmF (a :: c.drop (k + 1)) k T.length) := by rw [← drop_cons hx]; exact hn
      have hK : Below w.heap.size w wr := (below_two _ _ _).trans (hb.mono (by omega))
      obtain ⟨c0, c1, c2⟩ := atmC_keeps _ _ _ _ _ hK hC
      clear hx hn hcc hK hC hca
      cases hm : atmB a T.length
      · have HF : Hid (atmF c 0 T.length = some k) := HN.out.trans (atmF_bad hm _ _)
        go_wp2_with (go_at_call 57; refine (mayBeAsked_any a T.length h2 _).mono ?_; rw [hm]; rintro e w3 ⟨rfl, hb3⟩; have hb4 := (hb.alloc (by omega) _).trans (hb3.mono (by simp; omega)); clear hb3 g0 g1 g2 d0 d1 f0 f1; obtain ⟨g0, g1, g2, d0, d1, f0, f1, s4, s5⟩ := own5 hb4)
        exact bodyPost_ret (v := .agg #[.int .i64 4, .int .i64 k]) (by simp [results, Try.results41, go_sem, *]) rfl
          ⟨by rw [HF.out]; rfl, (((below_two _ _ _).trans (hb4.mono (by omega))).setCell (by simp) _).setCell (by simp) _⟩
      · have HF : Hid (atmF c 0 T.length = atmF (c.drop (k + 1)) (k + 1) T.length) := HN.out.trans (atmF_ok hm _ _)
        go_wp2_with (go_at_call 57; refine (mayBeAsked_any a T.length h2 _).mono ?_; rw [hm]; rintro e w3 ⟨rfl, hb3⟩; have hb4 := (hb.alloc (by omega) _).trans (hb3.mono (by simp; omega)); clear hb3)
        go_roundw
        case measure => simp [intOf]; omega
        case rel => exact ⟨k + 1, by omega, by go_num, HF.out, hb4⟩
    · have HF : Hid (atmF c 0 T.length = none) := by rw [hn, drop_nil hlt]; rfl
      clear hn hcc hca
      go_wp2_with fail
      exact bodyPost_ret (v := .agg #[.int .i64 0, .int .i64 0]) (by simp [results, Try.results41, go_sem, *]) rfl
        ⟨by rw [HF.out]; rfl, (((below_two _ _ _).trans (hb.mono (by omega))).setCell (by simp) _).setCell (by simp) _⟩

end Go.Proofs.Ytbmlmplbhgahpaa
