import Derived.Test.YtomijmikkbhgmaaGreatT4
import Derived.Test.YtomijmikkbhgmaaGreatMath6
import Derived.Deep.OwnRows
namespace Go.Proofs.YtomijmikkbhgmaaGreat
open Go.RowKit

structure ArwC (w : World) (b off : Nat) (p : Int × Int) : Prop where
  c0 : w.cell? ⟨b, off, none⟩ = some (.int .i64 p.1)
  c1 : w.cell? ⟨b, off + 1, none⟩ = some (.int .i64 p.2)
theorem arwC_keeps : Keeps ArwC := fun _ _ _ _ _ hb h => ⟨keep_cell hb h.c0, keep_cell hb h.c1⟩
def ArwAt (w : World) (v : Value) (l : List (Int × Int)) : Prop := ∃ ao b off cap, SlAt w 2 ArwC v l ao b off cap
theorem ArwAt.keep {w w' : World} {v : Value} {l : List (Int × Int)} (h : ArwAt w v l) (hb : Below w.heap.size w w') : ArwAt w' v l := by
  obtain ⟨ao, b, off, cap, h⟩ := h
  exact ⟨ao, b, off, cap, h.keep arwC_keeps hb⟩

theorem Tryz.infoBool : (Tryz.prog.info? 4).map (fun i => (i.zero, i.size, i.bytes)) = some (some (.bool false), 1, 1) := by kernel_rfl

theorem ldB_hit {g : Nat → Bool} {to : Int} {p : Int × Int} (A : List (Int × Int)) (h1 : p.2 = to) (h2 : g p.1.toNat = false) : ldB g to (p :: A) = true := by simp [ldB, h1, h2]
theorem ldB_mis {g : Nat → Bool} {to : Int} {p : Int × Int} (A : List (Int × Int)) (h : p.2 = to → g p.1.toNat = true) : ldB g to (p :: A) = ldB g to A := by
  unfold ldB
  rw [List.any_cons]
  by_cases e : p.2 = to
  · simp [e, h e]
  · simp [e]

set_option maxHeartbeats 1000000 in
theorem leads_any (n : Nat) (_hn : n ≤ 100000) (A : List (Int × Int)) (hA : Arws n A) (hl : A.length ≤ 1000000) (g : Nat → Bool) (bT : Nat) (to : Int) (v : Value) (w : World) (h : ArwAt w v A) (hr : w.rowIs bT 4 n (fun i => .bool (g i))) :
    Calls Tryz.prog 148 #[v, .slice (some ⟨bT, 0, none⟩) n n, .int .i64 to] w fun e w' => e = .returned (.bool (ldB g to A)) ∧ w' = w := by
  obtain ⟨ao, b, off, cap, hv, ha, _, hc⟩ := h
  subst hv
  have HC : Hid ((∀ k p, A[k]? = some p → ArwC w b (off + k * 2) p) ∧ Arws n A ∧ w.rowIs bT 4 n (fun i => .bool (g i))) := ⟨hc, hA, hr⟩
  generalize hB : ldB g to A = B
  have HB : Hid (B = ldB g to (A.drop 0)) := hB.symm
  clear hc hA hr hB
  go_enter Tryz.func148, Tryz.ntmps148
  go_wp2_with fail
  go_loop [7] (fun i => ∃ k : Nat, k ≤ A.length ∧ i = .int .i64 k ∧ Hid (B = ldB g to (A.drop k))) (fun i => A.length - (intOf i).toNat)
  case atStart => exact ⟨0, Nat.zero_le _, rfl, HB.out⟩
  case round =>
    clear HB
    obtain ⟨k, hk, rfl, hn2⟩ := hrel
    by_cases hlt : k < A.length
    · obtain ⟨p, hp⟩ := get_of_lt hlt
      obtain ⟨a, c, ha3, hc3, rfl⟩ := HC.out.2.1 p (List.mem_of_getElem? hp)
      have hN : Hid (B = ldB g to (((a : Int), (c : Int)) :: A.drop (k + 1))) := by rw [← drop_cons hp]; exact hn2
      obtain ⟨c0, c1⟩ := HC.out.1 k _ hp
      obtain rfl := ha (ne_nil hlt)
      simp only at c0 c1
      have r0 := HC.out.2.2.cell ha3
      have haI : (a : Int) < (n : Int) := by omega
      have hkI : (k : Int) < (A.length : Int) := by omega
      clear hn2 hp
      cases h1 : ((c : Int) == to)
      · have HM : Hid (B = ldB g to (A.drop (k + 1))) := hN.out.trans (ldB_mis _ (fun e => by simp at h1; exact absurd e h1))
        clear hN
        go_wp2_with fail
        go_round
        case measure => simp [intOf]; omega
        case rel => exact ⟨k + 1, by omega, by go_num, HM.out⟩
      · cases h2 : g a
        · have HM : Hid (B = true) := hN.out.trans (ldB_hit _ (by simpa using h1) (by simpa using h2))
          clear hN
          go_wp2_with fail
          go_ret
          exact ⟨by rw [HM.out]; rfl, rfl⟩
        · have HM : Hid (B = ldB g to (A.drop (k + 1))) := hN.out.trans (ldB_mis _ (fun _ => by simpa using h2))
          clear hN
          go_wp2_with fail
          go_round
          case measure => simp [intOf]; omega
          case rel => exact ⟨k + 1, by omega, by go_num, HM.out⟩
    · have HM : Hid (B = false) := hn2.out.trans (by rw [drop_nil hlt]; rfl)
      clear hn2
      go_wp2_with fail
      go_ret
      exact ⟨by rw [HM.out]; rfl, rfl⟩

end Go.Proofs.YtomijmikkbhgmaaGreat
