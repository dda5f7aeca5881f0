import Derived.Test.YtomijmikkbhgmabT33
namespace Go.Proofs.Ytomijmikkbhgmab
open Go.RowKit

/-- In the midst: the sections of the threads below k have been met. -/
def meetM (T : List (List Ins)) (M : Mo) (i k : Nat) : Mo := { M with wt := upd M.wt i fun j => M.wt i j || (decide (j < k) && inK T M j) }
theorem meet_pc (T : List (List Ins)) (M : Mo) (i k : Nat) : (meetM T M i k).pc = M.pc := rfl
theorem meet_wt (T : List (List Ins)) (M : Mo) (i k : Nat) : (meetM T M i k).wt i = fun j => M.wt i j || (decide (j < k) && inK T M j) := upd_self _ _ _
theorem enc_wt_congr {n : Nat} {M M' : Mo} (h1 : M.pc = M'.pc) (h2 : ∀ i, i < n → ∀ k, k < n → M.wt i k = M'.wt i k) (h3 : M.rg = M'.rg) (h4 : M.lc = M'.lc) : encM n M = encM n M' := by
  refine enc_ext (enc_len n M) (fun i hi => by rw [enc_pc M hi, h1]) (fun i hi => ?_) (fun i r hi hr => by rw [enc_tail, tail_rg M hi hr, h3]) (fun a ha => by rw [enc_tail, tail_lc M ha, h4])
  rw [enc_wt M hi, wtN_congr (h2 i hi)]
theorem meet_zero (T : List (List Ins)) (M : Mo) (i : Nat) : encM T.length (meetM T M i 0) = encM T.length M := by
  refine enc_wt_congr rfl (fun j hj k hk => ?_) rfl rfl
  show upd M.wt i _ j k = _
  unfold upd
  by_cases hji : j = i
  · subst hji; rw [if_pos rfl]; simp
  · rw [if_neg hji]
theorem meet_no {T : List (List Ins)} {M : Mo} {i k : Nat} (h : inK T M k = false) : encM T.length (meetM T M i (k + 1)) = encM T.length (meetM T M i k) := by
  refine enc_wt_congr rfl (fun j hj t ht => ?_) rfl rfl
  show upd M.wt i _ j t = upd M.wt i _ j t
  unfold upd
  by_cases hji : j = i
  · rw [if_pos hji, if_pos hji]
    by_cases htk : t = k
    · subst htk; rw [h]; simp
    · have : (t < k + 1) = (t < k) := by rw [eq_iff_iff]; omega
      simp only [this]
  · rw [if_neg hji, if_neg hji]
theorem meet_yes {T : List (List Ins)} {M : Mo} {i k : Nat} (hi : i < T.length) (hk : k < T.length) (h : inK T M k = true) : (encM T.length (meetM T M i k)).set (T.length + i) ((wtN ((meetM T M i k).wt i) T.length ||| 2 ^ k : Nat) : Int) = encM T.length (meetM T M i (k + 1)) := by
  rw [wtN_or _ _ _ hk, enc_set_wt _ hi]
  refine enc_wt_congr rfl (fun j hj t ht => ?_) rfl rfl
  show upd (upd M.wt i _) i _ j t = upd M.wt i _ j t
  unfold upd
  by_cases hji : j = i
  · rw [if_pos hji, if_pos hji, meet_wt]
    by_cases htk : t = k
    · subst htk; rw [h]; simp
    · have : (t < k + 1) = (t < k) := by rw [eq_iff_iff]; omega
      simp only [this, htk]
      simp
  · rw [if_neg hji, if_neg hji, if_neg hji]
theorem meet_all (T : List (List Ins)) (M : Mo) (i : Nat) : encM T.length (meetM T M i T.length) = encM T.length { M with wt := upd M.wt i fun j => M.wt i j || inK T M j } := by
  refine enc_wt_congr rfl (fun j hj t ht => ?_) rfl rfl
  show upd M.wt i _ j t = upd M.wt i _ j t
  unfold upd
  by_cases hji : j = i
  · rw [if_pos hji, if_pos hji]
    simp [ht]
  · rw [if_neg hji, if_neg hji]

theorem OwnI.set {base : Nat} {w : World} {g n cap : Nat} {l : List Int} (h : OwnI base w (.slice (some ⟨g, 0, none⟩) n cap) l) (hn : n = l.length) (j : Nat) (x : Int) : OwnI base (w.setCell ⟨g, j, none⟩ (.int .i64 x)) (.slice (some ⟨g, 0, none⟩) n cap) (l.set j x) := by
  subst hn
  have := (World.ownsRow.stored h j (.int .i64 x)).1
  unfold OwnI
  rw [List.length_set, ← intV_set]
  exact this
theorem OwnI.cell {base : Nat} {w : World} {g n cap : Nat} {l : List Int} (h : OwnI base w (.slice (some ⟨g, 0, none⟩) n cap) l) (hn : n = l.length) {j : Nat} {x : Int} (hx : l[j]? = some x) : w.cell? ⟨g, j, none⟩ = some (.int .i64 x) := by
  subst hn
  have hj := (List.getElem?_eq_some_iff.1 hx).1
  rw [World.ownsRow.cellAt h j (by omega)]
  unfold intV
  rw [List.getElem?_map, hx]
  rfl
theorem OwnI.free {base : Nat} {w : World} {g n cap : Nat} {l : List Int} (h : OwnI base w (.slice (some ⟨g, 0, none⟩) n cap) l) (hn : n = l.length) (j : Nat) : w.frozen? ⟨g, j, none⟩ = false := by
  subst hn
  exact World.ownsRow.frozenAt h j
theorem OwnI.keep {base : Nat} {w w' : World} {v : Value} {l : List Int} (h : OwnI base w v l) (hb : Below w.heap.size w w') : OwnI base w' v l := own_keep h hb

/-- What syncs answers. -/
def SyOut (T : List (List Ins)) (M : Mo) (i base : Nat) (w : World) (v : Value) (e : Ending) (w' : World) : Prop := Below base w w' ∧ ((M.pc i % 2 = 1 ∧ wtN (M.wt i) T.length ≠ 0 ∧ e = .returned (.bool false)) ∨ (M.pc i % 2 = 1 ∧ wtN (M.wt i) T.length = 0 ∧ e = .returned (.bool true) ∧ OwnI base w' v (encM T.length { M with pc := upd M.pc i (M.pc i + 1) })) ∨
  (M.pc i % 2 = 0 ∧ e = .returned (.bool true) ∧ OwnI base w' v (encM T.length { M with pc := upd M.pc i (M.pc i + 1), wt := upd M.wt i fun k => M.wt i k || inK T M k })))

set_option maxRecDepth 20000 in
set_option maxHeartbeats 4000000 in
theorem syncs_any (T : List (List Ins)) (fa : Bool) (c : List Atm) (hT4 : T.length ≤ 4) (hl12 : ∀ l ∈ T, l.length ≤ 12) (M : Mo) (hpc : ∀ k, k < T.length → M.pc k ≤ 24) (i : Nat) (hi : i < T.length) (vt vc v : Value) (w : World) (base : Nat) (hbase : base ≤ w.heap.size) (HT : ∀ w', Below base w w' → TestAt w' (.agg #[vt, .bool fa, vc]) T fa c vt vc) (hv : OwnI base w v (encM T.length M)) :
    Calls Try.prog 63 #[.agg #[vt, .bool fa, vc], v, .int .i64 i] w (SyOut T M i base w v) := by
  have h := HT w (Below.refl _ _)
  obtain ⟨ht0, aot, bt, offt, capt, htv, hta, _, htc⟩ := h.ht.opened
  obtain ⟨hc0, aoc, bc, offc, capc, hsc⟩ := h.hc
  have hcv := hsc.hv
  subst htv hcv
  obtain ⟨g, cap, hg⟩ := own_some2 hv (by rw [enc_len]; omega)
  subst hg
  have hgl := World.ownsRow.lt hv g rfl
  have HTT : Hid (∀ w', Below base w w' → TestAt w' (.agg #[.slice aot T.length capt, .bool fa, .slice aoc c.length capc]) T fa c (.slice aot T.length capt) (.slice aoc c.length capc)) := HT
  have HV : Hid (OwnI base w (.slice (some ⟨g, 0, none⟩) (encM T.length M).length cap) (encM T.length M)) := hv
  have hpi := hpc i hi
  have hwl : wtN (M.wt i) T.length < 16 := Nat.lt_of_lt_of_le (wtN_lt _ _) (by have := Nat.pow_le_pow_right (n := 2) (by omega) hT4; omega)
  have HPC : Hid (∀ k, k < T.length → M.pc k ≤ 24) := hpc
  have HL12 : Hid (∀ l ∈ T, l.length ≤ 12) := hl12
  have HLEN : Hid (∀ M', (encM T.length M').length = 5 * T.length + 3) := fun M' => enc_len _ _
  have HOUT : Hid (∀ e w', SyOut T M i base w (.slice (some ⟨g, 0, none⟩) (encM T.length M).length cap) e w' → SyOut T M i base w (.slice (some ⟨g, 0, none⟩) (encM T.length M).length cap) e w') := fun _ _ h => h
  generalize hN5 : (encM T.length M).length = N5 at *
  have hN5' : N5 = 5 * T.length + 3 := by rw [← hN5]; exact enc_len _ _
  have HN5 : Hid (N5 = 5 * T.length + 3) := hN5'
  have hiN : i < N5 := by omega
  have hniN : T.length + i < N5 := by omega
  have hN15 : T.length ≤ N5 := by omega
  clear hN5 hN5'
  have m0 : w.cell? ⟨g, i, none⟩ = some (.int .i64 (M.pc i : Int)) := HV.out.cell (by rw [HLEN.out]; exact HN5.out) (enc_pc M hi)
  have m1 : w.cell? ⟨g, T.length + i, none⟩ = some (.int .i64 ((wtN (M.wt i) T.length : Nat) : Int)) := HV.out.cell (by rw [HLEN.out]; exact HN5.out) (enc_wt M hi)
  have mf : w.frozen? ⟨g, i, none⟩ = false := HV.out.free (by rw [HLEN.out]; exact HN5.out) i
  have hba := below_alloc w (.cells #[.slice aot T.length capt, .bool fa, .slice aoc c.length capc] 25)
  have m0' := keep_cell hba m0
  have m1' := keep_cell hba m1
  have mf' := (keep_frozen' hba (off := i) hgl.2).trans mf
  have t00 : (w.alloc (.cells #[.slice aot T.length capt, .bool fa, .slice aoc c.length capc] 25)).cell? ⟨w.heap.size, 0, none⟩ = some (.slice aot T.length capt) := by simp
  have t01 : (w.alloc (.cells #[.slice aot T.length capt, .bool fa, .slice aoc c.length capc] 25)).cell? ⟨w.heap.size, 1, none⟩ = some (.bool fa) := by simp
  have t02 : (w.alloc (.cells #[.slice aot T.length capt, .bool fa, .slice aoc c.length capc] 25)).cell? ⟨w.heap.size, 2, none⟩ = some (.slice aoc c.length capc) := by simp
  have HV1 : Hid (OwnI base (w.alloc (.cells #[.slice aot T.length capt, .bool fa, .slice aoc c.length capc] 25)) (.slice (some ⟨g, 0, none⟩) N5 cap) (encM T.length M)) := HV.out.keep hba
  have hb01 : Below base w (w.alloc (.cells #[.slice aot T.length capt, .bool fa, .slice aoc c.length capc] 25)) := hba.mono hbase
  have hI : (T.length : Int) + (i : Int) = ((T.length + i : Nat) : Int) := by omega
  have hiI : (i : Int) < (N5 : Int) := by omega
  have hniI : ((T.length + i : Nat) : Int) < (N5 : Int) := by omega
  have hsz1 : (w.alloc (.cells #[.slice aot T.length capt, .bool fa, .slice aoc c.length capc] 25)).heap.size = w.heap.size + 1 := by simp
  obtain ⟨w1, hw1⟩ : ∃ x, x = w.alloc (.cells #[.slice aot T.length capt, .bool fa, .slice aoc c.length capc] 25) := ⟨_, rfl⟩
  go_enter Try.func63, Try.ntmps63
  go_upto_region 1 with fail
  rw [← hw1] at m0' m1' mf' t00 t01 t02 HV1 hb01 hsz1 ⊢
  clear hw1 h hsc htc hta hv HT hpc hl12 m0 m1 mf hba
  have n1 : ¬ w.heap.size = g := by omega
  have n2 : ¬ g = w.heap.size := by omega
  generalize hni : T.length + i = ni at *
  by_cases hodd : M.pc i % 2 = 1
  · have hr2 : ((M.pc i : Nat) : Int) % 2 = 1 := by omega
    have HODD : Hid (M.pc i % 2 = 1) := hodd
    by_cases hw0 : wtN (M.wt i) T.length = 0
    · have HW0 : Hid (wtN (M.wt i) T.length = 0) := hw0
      have hw0b : (((wtN (M.wt i) T.length : Nat) : Int) != 0) = false := by rw [hw0]; rfl
      have HS : Hid (OwnI base (w1.setCell ⟨g, i, none⟩ (.int .i64 ((M.pc i : Int) + 1))) (.slice (some ⟨g, 0, none⟩) N5 cap) (encM T.length { M with pc := upd M.pc i (M.pc i + 1) })) := by
        have := HV1.out.set (by rw [HLEN.out]; exact HN5.out) i ((M.pc i : Int) + 1)
        rw [show ((M.pc i : Int) + 1) = ((M.pc i + 1 : Nat) : Int) by omega, enc_set_pc M hi] at this
        rw [show ((M.pc i : Int) + 1) = ((M.pc i + 1 : Nat) : Int) by omega]
        exact this
      have hbf : Below base w (w1.setCell ⟨g, i, none⟩ (.int .i64 ((M.pc i : Int) + 1))) := hb01.setCell (by show base ≤ g; exact hgl.1) _
      clear hodd hw0
      go_wp2_with fail
      go_ret
      exact ⟨hbf, .inr (.inl ⟨HODD.out, HW0.out, rfl, HS.out⟩)⟩
    · have HW0 : Hid (wtN (M.wt i) T.length ≠ 0) := hw0
      have hw0b : (((wtN (M.wt i) T.length : Nat) : Int) != 0) = true := by simp; omega
      clear hodd hw0
      go_wp2_with fail
      go_ret
      exact ⟨hb01, .inl ⟨HODD.out, HW0.out, rfl⟩⟩
  · have hr2 : ¬ ((M.pc i : Nat) : Int) % 2 = 1 := by omega
    have hr3 : ((M.pc i : Nat) : Int) % 2 = 0 := by omega
    have HEV : Hid (M.pc i % 2 = 0) := by unfold Hid; omega
    go_upto_region 8 with fail
    have HI : Hid ((T.length : Int) + (i : Int) = (ni : Int)) := hI
    have HNI : Hid (T.length + i = ni) := hni
    clear hr2 hr3 hsz1 hI hni hodd
    go_loopw [8] (fun x wr => ∃ k : Nat, k ≤ T.length ∧ x = .int .i64 k ∧ Hid (OwnI base wr (.slice (some ⟨g, 0, none⟩) N5 cap) (encM T.length (meetM T M i k))) ∧ Hid (wr.cell? ⟨w.heap.size, 0, none⟩ = some (.slice aot T.length capt) ∧ wr.cell? ⟨w.heap.size, 1, none⟩ = some (.bool fa) ∧ wr.cell? ⟨w.heap.size, 2, none⟩ = some (.slice aoc c.length capc)) ∧ Below base w wr) (fun x _ => T.length - (intOf x).toNat)
    case atStart => exact ⟨0, Nat.zero_le _, rfl, by rw [meet_zero]; exact HV1.out, ⟨t00, t01, t02⟩, hb01⟩
    case round =>
      clear t00 t01 t02 m0' m1' mf'
      obtain ⟨k, hk, rfl, HO, HB, hb⟩ := hrel
      obtain ⟨t0, t1, t2⟩ := HB.out
      by_cases hlt : k < T.length
      · have hkI : (k : Int) < (T.length : Int) := by omega
        obtain ⟨l, hl⟩ := get_of_lt hlt
        have HIN : Hid (Calls Try.prog 80 #[.agg #[.slice aot T.length capt, .bool fa, .slice aoc c.length capc], .slice (some ⟨g, 0, none⟩) N5 cap, .int .i64 k] wr fun e w' => e = .returned (.bool (inK T M k)) ∧ Below wr.heap.size wr w') := by
          have q := inside_any T fa c hT4 HL12.out (encM T.length (meetM T M i k)) (by rw [HLEN.out]; omega) k (M.pc k) l hl (HPC.out k hlt) (enc_pc (meetM T M i k) hlt) _ _ _ wr (HTT.out wr hb) (OwnI.at' HO.out)
          have e : inK T M k = insd l false (M.pc k) := by unfold inK; rw [hl]
          rw [e]
          exact q
        clear hl
        go_wp2_with fail
        refine HIN.out.mono ?_
        rintro e w5 ⟨rfl, hb5⟩
        have HO5 : Hid (OwnI base w5 (.slice (some ⟨g, 0, none⟩) N5 cap) (encM T.length (meetM T M i k))) := HO.out.keep hb5
        have u0 := keep_cell hb5 t0
        have u1 := keep_cell hb5 t1
        have u2 := keep_cell hb5 t2
        have hbw5 : Below base w w5 := hb.trans (hb5.mono (by have := hb.size; omega))
        clear HO HB t0 t1 t2 HIN hb5 hb
        cases hin : inK T M k
        · have HN : Hid (OwnI base w5 (.slice (some ⟨g, 0, none⟩) N5 cap) (encM T.length (meetM T M i (k + 1)))) := by unfold Hid; rw [meet_no hin]; exact HO5.out
          go_wp2_with fail
          go_roundw
          case measure => simp [intOf]; omega
          case rel => exact ⟨k + 1, by omega, by go_num, HN.out, ⟨u0, u1, u2⟩, hbw5⟩
        · have p1 : w5.cell? ⟨g, ni, none⟩ = some (.int .i64 ((wtN ((meetM T M i k).wt i) T.length : Nat) : Int)) := by rw [← HNI.out]; exact HO5.out.cell (by rw [HLEN.out]; exact HN5.out) (enc_wt (meetM T M i k) hi)
          have pf : w5.frozen? ⟨g, ni, none⟩ = false := HO5.out.free (by rw [HLEN.out]; exact HN5.out) ni
          have hAl : wtN ((meetM T M i k).wt i) T.length < 16 := Nat.lt_of_lt_of_le (wtN_lt _ _) (by have := Nat.pow_le_pow_right (n := 2) (by omega) hT4; omega)
          have HN : Hid (∀ x : Int, x = ((wtN ((meetM T M i k).wt i) T.length ||| 2 ^ k : Nat) : Int) → OwnI base (w5.setCell ⟨g, ni, none⟩ (.int .i64 x)) (.slice (some ⟨g, 0, none⟩) N5 cap) (encM T.length (meetM T M i (k + 1)))) := fun x hx => by
            have q := HO5.out.set (by rw [HLEN.out]; exact HN5.out) ni x
            rw [hx, ← HNI.out, meet_yes hi hlt hin] at q
            rw [hx, ← HNI.out]
            exact q
          have hk4 : k < 4 := by omega
          have hor := or_i64 (a := wtN ((meetM T M i k).wt i) T.length) (b := 2 ^ k) hAl (by have := Nat.pow_lt_pow_right (a := 2) (by omega) hk4; omega)
          have hsh : wrap64 ((2 : Int) ^ k) = ((2 ^ k : Nat) : Int) := shl_small ⟨k, hk4⟩
          have HX : Hid (bits .or .i64 ((wtN ((meetM T M i k).wt i) T.length : Nat) : Int) (wrap64 ((2 : Int) ^ k)) = ((wtN ((meetM T M i k).wt i) T.length ||| 2 ^ k : Nat) : Int)) := by unfold Hid; rw [hsh, hor]
          clear hor hsh
          have hI := HI.out
          generalize hWW : ((wtN ((meetM T M i k).wt i) T.length : Nat) : Int) = WW at p1 HX
          have HN2 : Hid (OwnI base (w5.setCell ⟨g, ni, none⟩ (.int .i64 (bits .or .i64 WW (wrap64 ((2 : Int) ^ k))))) (.slice (some ⟨g, 0, none⟩) N5 cap) (encM T.length (meetM T M i (k + 1)))) := HN.out _ HX.out
          clear HN HX hWW
          go_upto_region 12 with fail
          go_region
          clear hI
          have hs6 : ∀ b : Nat, b ≠ g → (w5.setCell ⟨g, ni, none⟩ (.int .i64 (bits .or .i64 WW (wrap64 ((2 : Int) ^ k))))).drew.heap[b]? = w5.heap[b]? := fun b hb => heap_setCell_other w5 ⟨g, ni, none⟩ b _ hb
          have HN3 : Hid (OwnI base (w5.setCell ⟨g, ni, none⟩ (.int .i64 (bits .or .i64 WW (wrap64 ((2 : Int) ^ k))))).drew (.slice (some ⟨g, 0, none⟩) N5 cap) (encM T.length (meetM T M i (k + 1)))) := own_other HN2.out (fun b _ => rfl)
          have hb6 : Below base w (w5.setCell ⟨g, ni, none⟩ (.int .i64 (bits .or .i64 WW (wrap64 ((2 : Int) ^ k))))).drew := (hbw5.setCell (by show base ≤ g; exact hgl.1) _).drew
          have v0 := cell_heap (hs6 w.heap.size n1) u0
          have v1 := cell_heap (hs6 w.heap.size n1) u1
          have v2 := cell_heap (hs6 w.heap.size n1) u2
          obtain ⟨w6, hw6⟩ : ∃ x, x = (w5.setCell ⟨g, ni, none⟩ (.int .i64 (bits .or .i64 WW (wrap64 ((2 : Int) ^ k))))).drew := ⟨_, rfl⟩
          rw [← hw6] at HN3 hb6 v0 v1 v2 ⊢
          clear hw6 hs6 HN2
          go_wp2_with fail
          go_roundw
          case measure => simp [intOf]; omega
          case rel => exact ⟨k + 1, by omega, by go_num, HN3.out, ⟨v0, v1, v2⟩, hb6⟩
      · have hkI : ¬ (k : Int) < (T.length : Int) := by omega
        obtain rfl : k = T.length := by omega
        have p0 : wr.cell? ⟨g, i, none⟩ = some (.int .i64 (M.pc i : Int)) := HO.out.cell (by rw [HLEN.out]; exact HN5.out) (enc_pc (meetM T M i T.length) hi)
        have pf : wr.frozen? ⟨g, i, none⟩ = false := HO.out.free (by rw [HLEN.out]; exact HN5.out) i
        have HS : Hid (OwnI base (wr.setCell ⟨g, i, none⟩ (.int .i64 ((M.pc i : Int) + 1))) (.slice (some ⟨g, 0, none⟩) N5 cap) (encM T.length { M with pc := upd M.pc i (M.pc i + 1), wt := upd M.wt i fun k => M.wt i k || inK T M k })) := by
          have q := HO.out.set (by rw [HLEN.out]; exact HN5.out) i ((M.pc i : Int) + 1)
          rw [meet_all, show ((M.pc i : Int) + 1) = ((M.pc i + 1 : Nat) : Int) by omega, enc_set_pc _ hi] at q
          rw [show ((M.pc i : Int) + 1) = ((M.pc i + 1 : Nat) : Int) by omega]
          exact q
        have hbf : Below base w (wr.setCell ⟨g, i, none⟩ (.int .i64 ((M.pc i : Int) + 1))) := hb.setCell (by show base ≤ g; exact hgl.1) _
        clear HO HB
        go_wp2_with fail
        go_ret
        exact ⟨hbf, .inr (.inr ⟨HEV.out, rfl, HS.out⟩)⟩

end Go.Proofs.Ytomijmikkbhgmab

namespace Go.Proofs.Ytomijmikkbhgmab

theorem zip_shift_in {A B : List Int} {d u v : Int} (h : (u, v) ∈ A.zip B) : (u + d, v + d) ∈ (A.map (· + d)).zip (B.map (· + d)) := by
  rw [List.zip_map, List.mem_map]
  exact ⟨(u, v), h, rfl⟩

/-- Who is in a section is in one of those. -/
theorem insd_some (l : List Ins) : (∀ (j q : Nat), nst l j false < 0 → OddOk l q → insd l false q = true → ∃ u v : Int, (u, v) ∈ (thoL 2 (evsI 0 l 0) 0).zip (thoL 3 (evsI 0 l 0) 0) ∧ u < (evc l q : Int) ∧ (evc l q : Int) ≤ v) ∧
    (∀ (j q : Nat), nst l j true < 0 → OddOk l q → insd l true q = true → (∃ v, (thoL 3 (evsI 0 l 0) 0).head? = some v ∧ (evc l q : Int) ≤ v) ∨ ∃ u v : Int, (u, v) ∈ (thoL 2 (evsI 0 l 0) 0).zip (thoL 3 (evsI 0 l 0) 0).tail ∧ u < (evc l q : Int) ∧ (evc l q : Int) ≤ v) := by
  induction l with
  | nil =>
    refine ⟨fun j q _ _ h => by simp [insd] at h, fun j q hn => ?_⟩
    simp [nst] at hn
    omega
  | cons x l ih =>
    obtain ⟨ihF, ihT⟩ := ih
    have hodd : ∀ q, 2 ≤ q → OddOk (x :: l) q → OddOk l (q - 2) := fun q hq h ho => by
      obtain ⟨y, hy, h7⟩ := h (by omega)
      rw [show q / 2 = (q - 2) / 2 + 1 by omega] at hy
      exact ⟨y, by simpa using hy, h7⟩
    have hone : OddOk (x :: l) 1 → x.op = 7 := fun h => by
      obtain ⟨y, hy, h7⟩ := h rfl
      simp at hy
      rw [hy]; exact h7
    have hnn : ∀ (kd : Int) (a : Int), a ∈ thoL kd (evsI 0 l 0) 0 → 0 ≤ a := fun kd a ha => by
      obtain ⟨k, _, _, _, e⟩ := thoL_mem ha
      omega
    have insq : ∀ b q, 2 ≤ q → insd (x :: l) b q = insd l (if x.op == 5 then true else if x.op == 6 then false else b) (q - 2) := fun b q hq => by rw [insd, if_neg (by omega)]
    have evz : evc (x :: l) 0 = 0 := by simp [evc, evsI]
    have evz' : evc l 0 = 0 := by simp [evc, evsI]
    rw [thoL_cons 2, thoL_cons 3]
    by_cases h5 : x.op = 5
    · -- Enter
      have k2 : thoL 2 (evsK 0 0 x (kindsOf x.op)) 0 = [0] := by rw [h5]; rfl
      have k3 : thoL 3 (evsK 0 0 x (kindsOf x.op)) 0 = [] := by rw [h5]; rfl
      have kl : (kindsOf x.op).length = 1 := by rw [h5]; rfl
      rw [k2, k3, kl]
      refine ⟨fun j q hn ho hin => ?_, fun j q hn => ?_⟩
      · have hn' : nst l (j + 1) true < 0 := by rw [nst, h5] at hn; simpa using hn
        by_cases hq : 2 ≤ q
        · rw [insq _ _ hq, h5] at hin
          have hin' : insd l true (q - 2) = true := hin
          rw [evc_cons hq, kl]
          rcases ihT (j + 1) (q - 2) hn' (hodd q hq ho) hin' with ⟨v, hv, hle⟩ | ⟨u, v, hm, hu, hv⟩
          · cases hE : thoL 3 (evsI 0 l 0) 0 with
            | nil => rw [hE] at hv; simp at hv
            | cons e0 E3 =>
              rw [hE] at hv
              have e0v : e0 = v := by simpa using hv
              subst e0v
              exact ⟨0, e0 + 1, by simp, by omega, by push_cast; omega⟩
          · cases hE : thoL 3 (evsI 0 l 0) 0 with
            | nil => rw [hE] at hm; simp at hm
            | cons e0 E3 =>
              rw [hE] at hm
              refine ⟨u + 1, v + 1, ?_, by push_cast; omega, by push_cast; omega⟩
              have := zip_shift_in (d := 1) (show (u, v) ∈ (thoL 2 (evsI 0 l 0) 0).zip E3 from hm)
              simp only [List.singleton_append, List.nil_append, List.map_cons, List.zip_cons_cons, List.mem_cons]
              exact .inr this
        · exfalso
          have hq1 : q = 0 ∨ q = 1 := by omega
          rcases hq1 with rfl | rfl
          · rw [insd_zero] at hin; cases hin
          · have := hone ho; omega
      · exfalso
        rw [nst, h5] at hn
        simp at hn
        omega
    · by_cases h6 : x.op = 6
      · -- Leave
        have k2 : thoL 2 (evsK 0 0 x (kindsOf x.op)) 0 = [] := by rw [h6]; rfl
        have k3 : thoL 3 (evsK 0 0 x (kindsOf x.op)) 0 = [0] := by rw [h6]; rfl
        have kl : (kindsOf x.op).length = 1 := by rw [h6]; rfl
        rw [k2, k3, kl]
        refine ⟨fun j q hn => ?_, fun j q hn ho hin => ?_⟩
        · exfalso
          rw [nst, h6] at hn
          simp at hn
          omega
        · have hn' : nst l (j + 1) false < 0 := by rw [nst, h6] at hn; simpa using hn
          by_cases hq : 2 ≤ q
          · rw [insq _ _ hq, h6] at hin
            have hin' : insd l false (q - 2) = true := hin
            obtain ⟨u, v, hm, hu, hv⟩ := ihF (j + 1) (q - 2) hn' (hodd q hq ho) hin'
            rw [evc_cons hq, kl]
            exact .inr ⟨u + 1, v + 1, zip_shift_in (d := 1) hm, by push_cast; omega, by push_cast; omega⟩
          · have hq1 : q = 0 ∨ q = 1 := by omega
            rcases hq1 with rfl | rfl
            · rw [evz]; exact .inl ⟨0, rfl, by simp⟩
            · have := hone ho; omega
      · -- neither
        have hk2 : (2 : Int) ∉ kindsOf x.op := by
          unfold kindsOf
          have e5 : (x.op == 5) = false := by simpa using h5
          have e6 : (x.op == 6) = false := by simpa using h6
          rw [e5, e6]
          repeat' split
          all_goals simp
          all_goals contradiction
        have hk3 : (3 : Int) ∉ kindsOf x.op := by
          unfold kindsOf
          have e5 : (x.op == 5) = false := by simpa using h5
          have e6 : (x.op == 6) = false := by simpa using h6
          rw [e5, e6]
          repeat' split
          all_goals simp
          all_goals contradiction
        rw [thoK_none hk2, thoK_none hk3, List.nil_append, List.nil_append]
        have hflag : ∀ b : Bool, (if x.op == 5 then true else if x.op == 6 then false else b) = b := fun b => by rw [if_neg (by simp [h5]), if_neg (by simp [h6])]
        have hnx : ∀ j b, nst (x :: l) j b < 0 → nst l (j + 1) b < 0 := fun j b hn => by
          rw [nst_cons7] at hn
          rw [if_neg (by simp [h5])] at hn
          by_cases h7 : x.op = 7
          · rw [if_pos (by simp [h7])] at hn
            cases b
            · simpa using hn
            · simp at hn; omega
          · rw [if_neg (by simp [h7]), if_neg (by simp [h6])] at hn
            exact hn
        refine ⟨fun j q hn ho hin => ?_, fun j q hn ho hin => ?_⟩
        · by_cases hq : 2 ≤ q
          · rw [insq _ _ hq, hflag] at hin
            obtain ⟨u, v, hm, hu, hv⟩ := ihF (j + 1) (q - 2) (hnx j false hn) (hodd q hq ho) hin
            rw [evc_cons hq]
            exact ⟨_, _, zip_shift_in hm, by push_cast; omega, by push_cast; omega⟩
          · exfalso
            have hq1 : q = 0 ∨ q = 1 := by omega
            rcases hq1 with rfl | rfl
            · rw [insd_zero] at hin; cases hin
            · rw [insd, if_neg (by omega), hflag, insd_zero] at hin; cases hin
        · by_cases hq : 2 ≤ q
          · rw [insq _ _ hq, hflag] at hin
            rw [evc_cons hq]
            rcases ihT (j + 1) (q - 2) (hnx j true hn) (hodd q hq ho) hin with ⟨v, hv, hle⟩ | ⟨u, v, hm, hu, hv⟩
            · exact .inl ⟨v + ((kindsOf x.op).length : Int), by rw [List.head?_map, hv]; rfl, by push_cast; omega⟩
            · exact .inr ⟨u + ((kindsOf x.op).length : Int), v + ((kindsOf x.op).length : Int), by rw [← List.map_tail]; exact zip_shift_in hm, by push_cast; omega, by push_cast; omega⟩
          · have hq1 : q = 0 ∨ q = 1 := by omega
            rcases hq1 with rfl | rfl
            · rw [evz]
              rcases ihT (j + 1) 0 (hnx j true hn) (fun h => by omega) (insd_zero _ _) with ⟨v, hv, hle⟩ | ⟨u, v, hm, hu, hv⟩
              · exact .inl ⟨v + ((kindsOf x.op).length : Int), by rw [List.head?_map, hv]; rfl, by rw [evz'] at hle; push_cast at hle ⊢; omega⟩
              · exfalso
                have := hnn 2 u (List.of_mem_zip hm).1
                rw [evz'] at hu
                push_cast at hu
                omega
            · exfalso
              have h7 := hone ho
              rw [nst, h7] at hn
              simp at hn
              omega

/-- Who waits for a thread, waits for a section of it that is open. -/
def Waits (T : List (List Ins)) (R : List Nat) (M : Mo) : Prop := ∀ i k, k < T.length → M.wt i k = true → ∃ b e s f, SecAt T k b e ∧ SynAt T i s f ∧ [b, s].Sublist R ∧ s ∈ R ∧ f ∉ R ∧ e ∉ R

theorem waits_step {T : List (List Ins)} (hnst : ∀ l ∈ T, nst l 0 false < 0) {R : List Nat} {M M' : Mo} {i0 : Nat} {l0 : List Ins} {x : Ins} (h : RunOk T R M) (hS : Waits T R M) (hl : T[i0]? = some l0) (hx : l0[M.pc i0 / 2]? = some x) (hk : StepK T M i0 l0 x M') : Waits T (R ++ List.range' (offT T i0 + evc l0 (M.pc i0)) (evc l0 (M'.pc i0) - evc l0 (M.pc i0))) M' := by
  have h' := runOk_step h hl hx hk
  obtain ⟨e1, e2, e3⟩ := step_evc h.pcs hl hx hk
  have hnew : ∀ e i r l y, At T e i r l y → e ∈ List.range' (offT T i0 + evc l0 (M.pc i0)) (evc l0 (M'.pc i0) - evc l0 (M.pc i0)) → i = i0 ∧ l = l0 ∧ evc l0 (M.pc i0) ≤ r ∧ r < evc l0 (M'.pc i0) ∧ (kindsOf x.op)[r - (evsI 0 (l0.take (M.pc i0 / 2)) 0).length]? = some y.kind := fun e i r l y ha he => by
    rw [List.mem_range'_1] at he
    obtain ⟨y', q1, _, _, q3⟩ := step_new (r := e - offT T i0) h.pcs hl hx hk (by omega) (by omega)
    have ha' : At T e i0 (e - offT T i0) l0 y' := ⟨hl, q1, by omega⟩
    obtain ⟨rfl, rfl, rfl, rfl⟩ := ha.one ha'
    exact ⟨rfl, rfl, by omega, by omega, q3⟩
  generalize hN : List.range' (offT T i0 + evc l0 (M.pc i0)) (evc l0 (M'.pc i0) - evc l0 (M.pc i0)) = N at *
  -- what holds still, if neither the Finish nor the End has come
  have keep : ∀ i k, k < T.length → M.wt i k = true → (∀ b e s f, SecAt T k b e → SynAt T i s f → f ∉ R → e ∉ R → f ∉ N ∧ e ∉ N) → ∃ b e s f, SecAt T k b e ∧ SynAt T i s f ∧ [b, s].Sublist (R ++ N) ∧ s ∈ R ++ N ∧ f ∉ R ++ N ∧ e ∉ R ++ N := fun i k hk' hw hne => by
    obtain ⟨b, e, s, f, q1, q2, q3, q4, q5, q6⟩ := hS i k hk' hw
    obtain ⟨n1, n2⟩ := hne b e s f q1 q2 q5 q6
    exact ⟨b, e, s, f, q1, q2, q3.trans (List.sublist_append_left _ _), List.mem_append_left _ q4, fun hh => by rcases List.mem_append.1 hh with q | q; exact q5 q; exact n1 q, fun hh => by rcases List.mem_append.1 hh with q | q; exact q6 q; exact n2 q⟩
  intro i k hkT hw
  have noF : (5 : Int) ∉ kindsOf x.op ∨ (x.op = 7 ∧ M.pc i0 % 2 = 0) → ∀ i s f, SynAt T i s f → f ∉ N := fun hc i s f hy hfN => by
    obtain ⟨l, r, ys, yf, y1, y2, y3, y4⟩ := hy
    obtain ⟨_, _, a3, a4, a5⟩ := hnew _ _ _ _ _ y3 hfN
    rw [y4] at a5
    rcases hc with hc | ⟨h7, hq⟩
    · exact hc (List.mem_of_getElem? a5)
    · rw [h7] at a5
      rw [if_pos h7] at e2
      have hz : r + 1 - (evsI 0 (l0.take (M.pc i0 / 2)) 0).length = 0 := by unfold evc at a3 a4 e2; omega
      rw [hz] at a5
      cases a5
  have noE : (3 : Int) ∉ kindsOf x.op → ∀ k b e, SecAt T k b e → e ∉ N := fun hc k b e hs heN => by
    obtain ⟨l, u, v, yb, ye, q1, q2, q3, q4, q5⟩ := hs
    obtain ⟨_, _, _, _, a5⟩ := hnew _ _ _ _ _ q4 heN
    rw [q5] at a5
    exact hc (List.mem_of_getElem? a5)
  cases hk with
  | begin h7 hq hM =>
    have k3 : (3 : Int) ∉ kindsOf x.op := by rw [h7]; decide
    have hold : M.wt i k = true → ∃ b e s f, SecAt T k b e ∧ SynAt T i s f ∧ [b, s].Sublist (R ++ N) ∧ s ∈ R ++ N ∧ f ∉ R ++ N ∧ e ∉ R ++ N := fun hw' => keep i k hkT hw' fun b e s f q1 q2 _ _ => ⟨noF (.inr ⟨h7, hq⟩) i s f q2, noE k3 k b e q1⟩
    rw [hM] at hw
    have hw' : upd M.wt i0 (fun k => M.wt i0 k || inK T M k) i k = true := hw
    by_cases hii : i = i0
    · subst hii
      rw [upd_self] at hw'
      cases hwk : M.wt i k
      · rw [hwk, Bool.false_or] at hw'
        obtain ⟨lk, hlk⟩ := get_of_lt hkT
        unfold inK at hw'
        rw [hlk] at hw'
        have hin : insd lk false (M.pc k) = true := hw'
        obtain ⟨u, v, hm, hu, hv⟩ := (insd_some lk).1 0 (M.pc k) (hnst lk (List.mem_of_getElem? hlk)) (fun ho => h.pcs.odd k lk hlk ho) hin
        obtain ⟨u', yb, q1, q2, q3⟩ := thoL_mem (kd := 2) (E := evsI k lk 0) (i := 0) (a := u) (by rw [thoL_I 2 k 0]; exact (List.of_mem_zip hm).1)
        obtain ⟨v', ye, r1, r2, r3⟩ := thoL_mem (kd := 3) (E := evsI k lk 0) (i := 0) (a := v) (by rw [thoL_I 3 k 0]; exact (List.of_mem_zip hm).2)
        rw [Nat.zero_add] at q3 r3
        subst q3 r3
        have hab : At T (offT T k + u') k u' lk yb := ⟨hlk, q1, rfl⟩
        have hae : At T (offT T k + v') k v' lk ye := ⟨hlk, r1, rfl⟩
        have hsec : SecAt T k (offT T k + u') (offT T k + v') := ⟨lk, u', v', yb, ye, hm, hab, q2, hae, r2⟩
        have hbR : offT T k + u' ∈ R := (h.mem _ _ _ _ _ hab).2 (by omega)
        have heR : offT T k + v' ∉ R := fun hh => by have := (h.mem _ _ _ _ _ hae).1 hh; omega
        rw [if_pos h7] at e2
        have hev : evc l0 (M.pc i) = (evsI 0 (l0.take (M.pc i / 2)) 0).length := by unfold evc; omega
        have k0 : (kindsOf x.op)[0]? = some 4 := by rw [h7]; rfl
        have k1 : (kindsOf x.op)[1]? = some 5 := by rw [h7]; rfl
        have s0 := ev_ins (i := i) hx k0
        have s1 := ev_ins (i := i) hx k1
        rw [← hev] at s0 s1
        rw [Nat.add_zero] at s0
        have has : At T (offT T i + evc l0 (M.pc i)) i (evc l0 (M.pc i)) l0 _ := ⟨hl, s0, rfl⟩
        have haf : At T (offT T i + (evc l0 (M.pc i) + 1)) i (evc l0 (M.pc i) + 1) l0 _ := ⟨hl, s1, rfl⟩
        have hsyn : SynAt T i (offT T i + evc l0 (M.pc i)) (offT T i + (evc l0 (M.pc i) + 1)) := ⟨l0, _, _, _, has, rfl, haf, rfl⟩
        have hsN : offT T i + evc l0 (M.pc i) ∈ N := by rw [← hN, e2, List.mem_range'_1]; omega
        refine ⟨_, _, _, _, hsec, hsyn, sub2_new hbR hsN, List.mem_append_right _ hsN, fun hh => ?_, fun hh => ?_⟩
        · rcases List.mem_append.1 hh with q | q
          · have := (h.mem _ _ _ _ _ haf).1 q; omega
          · exact noF (.inr ⟨h7, hq⟩) _ _ _ hsyn q
        · rcases List.mem_append.1 hh with q | q
          · exact heR q
          · exact noE k3 _ _ _ hsec q
      · exact hold hwk
    · rw [upd_ne _ _ hii] at hw'
      exact hold hw'
  | finish h7 hq hw0 hM =>
    have k3 : (3 : Int) ∉ kindsOf x.op := by rw [h7]; decide
    rw [hM] at hw
    have hw' : M.wt i k = true := hw
    by_cases hii : i = i0
    · subst hii
      rw [hw0 k hkT] at hw'
      cases hw'
    · refine keep i k hkT hw' fun b e s f q1 q2 _ _ => ⟨fun hfN => ?_, noE k3 k b e q1⟩
      obtain ⟨l, r, ys, yf, y1, y2, y3, y4⟩ := q2
      exact hii (hnew _ _ _ _ _ y3 hfN).1
  | other h7 hM =>
    have hwd : M'.wt = (doMo M i0 x).wt := by rw [hM]
    rw [hwd] at hw
    by_cases h6 : x.op = 6
    · have hd : (doMo M i0 x).wt = fun k j => if j = i0 then false else M.wt k j := by
        unfold doMo
        rw [if_neg (by simp [h6]), if_neg (by simp [h6]), if_neg (by simp [h6]), if_neg (by simp [h6]), if_pos (by simp [h6])]
      rw [hd] at hw
      have hw' : (if k = i0 then false else M.wt i k) = true := hw
      by_cases hki : k = i0
      · rw [if_pos hki] at hw'; cases hw'
      · rw [if_neg hki] at hw'
        refine keep i k hkT hw' fun b e s f q1 q2 _ _ => ⟨noF (.inl (kinds_no h7).2) i s f q2, fun heN => ?_⟩
        obtain ⟨l, u, v, yb, ye, q1, q2, q3, q4, q5⟩ := q1
        exact hki (hnew _ _ _ _ _ q4 heN).1
    · have hd : (doMo M i0 x).wt = M.wt := by
        have e6 : (x.op == 6) = false := by simpa using h6
        unfold doMo
        rw [e6]
        repeat' split
        all_goals first | rfl | contradiction
      rw [hd] at hw
      have hk3 : (3 : Int) ∉ kindsOf x.op := by
        have e6 : (x.op == 6) = false := by simpa using h6
        unfold kindsOf
        rw [e6]
        repeat' split
        all_goals simp
        all_goals contradiction
      exact keep i k hkT hw fun b e s f q1 q2 _ _ => ⟨noF (.inl (kinds_no h7).2) i s f q2, noE hk3 k b e q1⟩

theorem run_waits {T : List (List Ins)} (hnst : ∀ l ∈ T, nst l 0 false < 0) {R : List Nat} {M : Mo} (h : Run T R M) : Waits T R M := by
  induction h with
  | start => exact fun i k _ hw => by cases hw
  | step R M M' i l hr hl hs ih =>
    obtain ⟨x, hx, hk⟩ := step_kind hl hs
    exact waits_step hnst (run_ok hr) ih hl hx hk

end Go.Proofs.Ytomijmikkbhgmab

namespace Go.Proofs.Ytomijmikkbhgmab

theorem step_other {T : List (List Ins)} {M : Mo} {i : Nat} {l : List Ins} {x : Ins} (hl : T[i]? = some l) (hx : l[M.pc i / 2]? = some x) (h7 : x.op ≠ 7) : stepMo T M i = some { doMo M i x with pc := upd M.pc i (M.pc i + 2) } := by
  unfold stepMo
  rw [hl]
  simp only [hx]
  rw [if_neg (by simpa using h7)]
theorem step_begin {T : List (List Ins)} {M : Mo} {i : Nat} {l : List Ins} {x : Ins} (hl : T[i]? = some l) (hx : l[M.pc i / 2]? = some x) (h7 : x.op = 7) (hq : M.pc i % 2 = 0) : stepMo T M i = some { M with pc := upd M.pc i (M.pc i + 1), wt := upd M.wt i fun k => M.wt i k || inK T M k } := by
  unfold stepMo
  rw [hl]
  simp only [hx]
  rw [if_pos (by simpa using h7), if_neg (by simp [hq])]
theorem step_finish {T : List (List Ins)} {M : Mo} {i : Nat} {l : List Ins} {x : Ins} (hl : T[i]? = some l) (hx : l[M.pc i / 2]? = some x) (h7 : x.op = 7) (hq : M.pc i % 2 = 1) (hw : ∀ k, k < T.length → M.wt i k = false) : stepMo T M i = some { M with pc := upd M.pc i (M.pc i + 1) } := by
  unfold stepMo
  rw [hl]
  simp only [hx]
  rw [if_pos (by simpa using h7), if_pos (by simp [hq]), if_neg]
  intro h
  obtain ⟨k, hk, hwk⟩ := List.any_eq_true.1 h
  rw [hw k (List.mem_range.1 hk)] at hwk
  cases hwk

/-- Past what has no events. -/
theorem skip_to {T : List (List Ins)} {R : List Nat} {i : Nat} {l : List Ins} (hl : T[i]? = some l) (d : Nat) : ∀ M : Mo, Run T R M → 2 * l.length - M.pc i ≤ d → ∃ M', Run T R M' ∧ evc l (M'.pc i) = evc l (M.pc i) ∧ (∀ j, j ≠ i → M'.pc j = M.pc j) ∧ (M'.pc i = 2 * l.length ∨ ∃ x, l[M'.pc i / 2]? = some x ∧ kindsOf x.op ≠ []) := by
  induction d with
  | zero =>
    intro M h hd
    have hle := (run_ok h).pcs.le i l hl
    exact ⟨M, h, rfl, fun _ _ => rfl, .inl (by omega)⟩
  | succ d ih =>
    intro M h hd
    have hp := (run_ok h).pcs
    have hle := hp.le i l hl
    by_cases he : M.pc i = 2 * l.length
    · exact ⟨M, h, rfl, fun _ _ => rfl, .inl he⟩
    · obtain ⟨x, hx⟩ := get_of_lt (l := l) (k := M.pc i / 2) (by omega)
      by_cases hk : kindsOf x.op = []
      · have h7 : x.op ≠ 7 := fun e => by rw [e] at hk; cases hk
        have hq : M.pc i % 2 = 0 := by
          by_cases hq : M.pc i % 2 = 1
          · obtain ⟨z, hz, hz7⟩ := hp.odd i l hl hq
            rw [hx] at hz
            cases hz
            exact absurd hz7 h7
          · omega
        have hs := step_other hl hx h7
        have hrun := Run.step R M _ i l h hl hs
        have hpc : ({ doMo M i x with pc := upd M.pc i (M.pc i + 2) } : Mo).pc i = M.pc i + 2 := upd_self _ _ _
        have hev : evc l (M.pc i + 2) = evc l (M.pc i) := by rw [evc_next hx hq, hk]; rfl
        rw [hpc, hev, Nat.sub_self] at hrun
        simp only [List.range'_zero, List.append_nil] at hrun
        obtain ⟨M', a1, a2, a3, a4⟩ := ih _ hrun (by rw [hpc]; omega)
        rw [hpc, hev] at a2
        refine ⟨M', a1, a2, fun j hj => ?_, a4⟩
        rw [a3 j hj]
        exact upd_ne _ _ hj
      · exact ⟨M, h, rfl, fun _ _ => rfl, .inr ⟨x, hx, hk⟩⟩

theorem kinds_one {x : Ins} (h3 : x.op ≠ 3) (h7 : x.op ≠ 7) (hk : kindsOf x.op ≠ []) : (kindsOf x.op).length = 1 := by
  have e3 : (x.op == 3) = false := by simpa using h3
  have e7 : (x.op == 7) = false := by simpa using h7
  unfold kindsOf at *
  rw [e3, e7] at *
  repeat' split
  all_goals first | rfl | skip
  all_goals first | (simp at hk; done) | (exfalso; apply hk; simp_all)

theorem mt_in {T : List (List Ins)} (hn : ∀ l ∈ T, nst l 0 false < 0) {k b e i s f : Nat} (hs : SecAt T k b e) (hy : SynAt T i s f) : (⟨(b : Int), (e : Int), (s : Int), (f : Int)⟩ : Mt) ∈ mtL (thoL 2 (evsT T 0) 0) (thoL 3 (evsT T 0) 0) (thoL 4 (evsT T 0) 0) := by
  obtain ⟨l, u, v, yb, ye, q1, q2, q3, q4, q5⟩ := hs
  obtain ⟨li, r, ys, yf, y1, y2, y3, y4⟩ := hy
  refine mt_mem.2 ⟨(zip_secs hn 0 0 _ _).2 ⟨k, l, (u : Int), (v : Int), q2.1, q1, ?_, ?_⟩, ?_, ?_⟩
  · have := q2.2.2
    unfold offT at this
    show (b : Int) = _
    rw [Nat.zero_add]
    omega
  · have := q4.2.2
    unfold offT at this
    show (e : Int) = _
    rw [Nat.zero_add]
    omega
  · have := thoL_in 0 y1.ev y2
    rw [Nat.zero_add] at this
    exact this
  · have h1 := y1.2.2
    have h3 := y3.2.2
    show (f : Int) = (s : Int) + 1
    omega

theorem row_go {T : List (List Ins)} (hn : ∀ l ∈ T, nst l 0 false < 0) {R : List Nat} {τ : Nat → Nat} (hO : RowOk (evsT T 0) R τ) (hr : RowRun (evsT T 0) τ) (m : Nat) : ∀ (R1 R2 : List Nat) (M : Mo), R2.length = m → R = R1 ++ R2 → Run T R1 M → ∃ M', Run T R M' := by
  induction m using Nat.strongRecOn with
  | ind m ih =>
    intro R1 R2 M hm hR h
    cases R2 with
    | nil => rw [List.append_nil] at hR; rw [hR]; exact ⟨M, h⟩
    | cons e R3 =>
      have hlen3 : R3.length + 1 = m := by simpa using hm
      have hpos : R[R1.length]? = some e := by rw [hR, List.getElem?_append_right (Nat.le_refl _)]; simp
      obtain ⟨heE, hte⟩ := hO.inv _ _ hpos
      have hmem : ∀ a, a < (evsT T 0).length → (a ∈ R1 ↔ τ a < R1.length) := fun a ha => by
        constructor
        · intro hh
          obtain ⟨k, hk⟩ := List.getElem?_of_mem hh
          have hkl := (List.getElem?_eq_some_iff.1 hk).1
          have := (hO.inv k a (by rw [hR, List.getElem?_append_left hkl]; exact hk)).2
          omega
        · intro hh
          have := hO.pos a ha
          rw [hR, List.getElem?_append_left hh] at this
          exact List.mem_of_getElem? this
      obtain ⟨y, hy⟩ := get_of_lt heE
      obtain ⟨i, c, l, ha⟩ := at_of hy
      have hl := ha.1
      have hok := run_ok h
      have hevc : evc l (M.pc i) = c := by
        have h1 : ¬ c < evc l (M.pc i) := fun q => by
          have := (hmem e heE).1 ((hok.mem _ _ _ _ _ ha).2 q)
          omega
        by_cases h0 : c = 0
        · omega
        · obtain ⟨y', hy'⟩ := get_of_lt (l := evsI i l 0) (k := c - 1) (by have := (List.getElem?_eq_some_iff.1 ha.2.1).1; omega)
          have ha' : At T (offT T i + (c - 1)) i (c - 1) l y' := ⟨hl, hy', rfl⟩
          have hlt := hr.thr _ _ _ _ ha'.ev ha.ev (by rw [ha'.th, ha.th]) (by have := ha.2.2; omega)
          have := (hok.mem _ _ _ _ _ ha').1 ((hmem _ (List.getElem?_eq_some_iff.1 ha'.ev).1).2 (by omega))
          omega
      obtain ⟨M1, hrun, hev1, _, hend⟩ := skip_to hl _ M h (Nat.le_refl _)
      rw [hevc] at hev1
      have hclt := (List.getElem?_eq_some_iff.1 ha.2.1).1
      have hx : ∃ x, l[M1.pc i / 2]? = some x ∧ kindsOf x.op ≠ [] := by
        rcases hend with q | q
        · rw [q, evc_end i l] at hev1; omega
        · exact q
      obtain ⟨x, hx, hkn⟩ := hx
      have hp := (run_ok hrun).pcs
      have heq : e = offT T i + c := ha.2.2
      -- go on behind one event
      have one : ∀ M2, stepMo T M1 i = some M2 → evc l (M2.pc i) = c + 1 → ∃ M', Run T R M' := fun M2 hs h2 => by
        have := Run.step R1 M1 M2 i l hrun hl hs
        rw [hev1, h2, Nat.add_sub_cancel_left, ← heq] at this
        exact ih R3.length (by omega) (R1 ++ [e]) R3 M2 rfl (by rw [hR]; simp) this
      by_cases h7 : x.op = 7
      · by_cases hq : M1.pc i % 2 = 1
        · -- a Finish
          have hw : ∀ k, k < T.length → M1.wt i k = false := fun k hk => by
            cases hwk : M1.wt i k
            · rfl
            · exfalso
              obtain ⟨b, e', s, f, hs, hsy, hsub, hsR, hfR, heR⟩ := run_waits hn hrun i k hk hwk
              have hsy' := hsy
              obtain ⟨li, r, ys, yf, y1, y2, y3, y4⟩ := hsy
              have hli := y1.1
              rw [hl] at hli
              cases hli
              have q1 := ((run_ok hrun).mem _ _ _ _ _ y1).1 hsR
              have q2 : ¬ r + 1 < evc l (M1.pc i) := fun q => hfR (((run_ok hrun).mem _ _ _ _ _ y3).2 q)
              have hfe : f = e := by have := y3.2.2; omega
              have hE : ∀ {a : Nat} {z : Evt}, (evsT T 0)[a]? = some z → a < (evsT T 0).length := fun hz => (List.getElem?_eq_some_iff.1 hz).1
              rcases hr.sec _ (mt_in hn hs hsy') with q | q
              · have q' : τ e' < τ f := by simpa only [keyT_nat] using q
                have : e' ∈ R1 := by
                  obtain ⟨_, _, _, _, _, _, _, _, q4, _⟩ := hs
                  exact (hmem _ (hE q4.ev)).2 (by rw [hfe, hte] at q'; exact q')
                exact heR this
              · have q' : τ s < τ b := by simpa only [keyT_nat] using q
                have hsubR : [b, s].Sublist R := by rw [hR]; exact hsub.trans (List.sublist_append_left _ _)
                have := hO.pw.sublist hsubR
                rw [List.pairwise_cons] at this
                have := this.1 s (List.mem_singleton.2 rfl)
                omega
          refine one _ (step_finish hl hx h7 hq hw) ?_
          show evc l (upd M1.pc i (M1.pc i + 1) i) = c + 1
          rw [upd_self, evc_full hx h7 hq, hev1]
        · refine one _ (step_begin hl hx h7 (by omega)) ?_
          show evc l (upd M1.pc i (M1.pc i + 1) i) = c + 1
          rw [upd_self, evc_half (by omega), hev1]
      · have hq : M1.pc i % 2 = 0 := by
          by_cases hq : M1.pc i % 2 = 1
          · obtain ⟨z, hz, hz7⟩ := hp.odd i l hl hq
            rw [hx] at hz
            cases hz
            exact absurd hz7 h7
          · omega
        have hs := step_other hl hx h7
        by_cases h3 : x.op = 3
        · -- a Swap
          have k0 : (kindsOf x.op)[0]? = some 0 := by rw [h3]; rfl
          have k1 : (kindsOf x.op)[1]? = some 1 := by rw [h3]; rfl
          have hcl : (evsI 0 (l.take (M1.pc i / 2)) 0).length = c := by rw [← hev1]; unfold evc; omega
          have s0 := ev_ins (i := i) hx k0
          have s1 := ev_ins (i := i) hx k1
          rw [hcl] at s0 s1
          rw [Nat.add_zero] at s0
          have hy0 := ha.2.1
          rw [s0] at hy0
          cases hy0
          have h1 : At T (e + 1) i (c + 1) l _ := ⟨hl, s1, by omega⟩
          have hsw := hr.swp e _ ha.ev rfl h3
          have hpos1 := hO.pos (e + 1) (List.getElem?_eq_some_iff.1 h1.ev).1
          rw [hsw, hte, hR, List.getElem?_append_right (by omega), Nat.add_sub_cancel_left] at hpos1
          cases R3 with
          | nil => simp at hpos1
          | cons e1 R4 =>
            have he1 : e1 = e + 1 := by simpa using hpos1
            subst he1
            have := Run.step R1 M1 _ i l hrun hl hs
            have hpc : ({ doMo M1 i x with pc := upd M1.pc i (M1.pc i + 2) } : Mo).pc i = M1.pc i + 2 := upd_self _ _ _
            rw [hpc, evc_next hx hq, hev1, h3, Nat.add_sub_cancel_left, ← heq] at this
            simp only [List.length_cons] at hlen3
            exact ih R4.length (by omega) (R1 ++ [e, e + 1]) R4 _ rfl (by rw [hR]; simp) this
        · refine one _ hs ?_
          show evc l (upd M1.pc i (M1.pc i + 2) i) = c + 1
          rw [upd_self, evc_next hx hq, hev1, kinds_one h3 h7 hkn]

theorem finish_all {T : List (List Ins)} {R : List Nat} {M : Mo} (h : Run T R M) (hall : ∀ e, e < (evsT T 0).length → e ∈ R) (n : Nat) (hn : n ≤ T.length) : ∃ M', Run T R M' ∧ ∀ i l, i < n → T[i]? = some l → M'.pc i = 2 * l.length := by
  induction n with
  | zero => exact ⟨M, h, fun i l hi => by omega⟩
  | succ n ih =>
    obtain ⟨M1, h1, h2⟩ := ih (by omega)
    obtain ⟨l, hl⟩ := get_of_lt (l := T) (k := n) (by omega)
    obtain ⟨M2, r1, r2, r3, r4⟩ := skip_to hl _ M1 h1 (Nat.le_refl _)
    have hok := run_ok r1
    have hend : M2.pc n = 2 * l.length := by
      rcases r4 with q | ⟨x, hx, hk⟩
      · exact q
      · exfalso
        -- there is an event that is not done
        have key : ∀ t kd, (kindsOf x.op)[t]? = some kd → ¬ evc l (M2.pc n) ≤ (evsI 0 (l.take (M2.pc n / 2)) 0).length + t := fun t kd hkd hle => by
          have hat : At T (offT T n + ((evsI 0 (l.take (M2.pc n / 2)) 0).length + t)) n ((evsI 0 (l.take (M2.pc n / 2)) 0).length + t) l _ := ⟨hl, ev_ins (i := n) hx hkd, rfl⟩
          have := (hok.mem _ _ _ _ _ hat).1 (hall _ (List.getElem?_eq_some_iff.1 hat.ev).1)
          omega
        by_cases hq : M2.pc n % 2 = 1
        · obtain ⟨z, hz, h7⟩ := hok.pcs.odd n l hl hq
          rw [hx] at hz
          cases hz
          exact key 1 5 (by rw [h7]; rfl) (by unfold evc; omega)
        · cases hks : kindsOf x.op with
          | nil => exact hk hks
          | cons a ks => exact key 0 a (by rw [hks]; rfl) (by unfold evc; omega)
    refine ⟨M2, r1, fun i li hi hli => ?_⟩
    by_cases hin : i = n
    · subst hin
      rw [hl] at hli
      cases hli
      exact hend
    · rw [r3 i hin]
      exact h2 i li (by omega) hli

/-- A row of all events, threads in their order, Swaps side by side, no section across a Sync: the threads can be run so. -/
theorem row_run {T : List (List Ins)} {c : List Atm} (hz : ((chk T c).1 == 0) = true) {R : List Nat} {τ : Nat → Nat} (hO : RowOk (evsT T 0) R τ) (hr : RowRun (evsT T 0) τ) : ∃ M, Run T R M ∧ DoneM T M := by
  obtain ⟨M, h⟩ := row_go (nstF_all (chk_nested hz).1) hO hr R.length [] R moZ rfl rfl Run.start
  obtain ⟨M', h1, h2⟩ := finish_all h (fun e he => hO.mem.2 he) T.length (Nat.le_refl _)
  exact ⟨M', h1, fun i l hl => h2 i l (List.getElem?_eq_some_iff.1 hl).1 hl⟩

end Go.Proofs.Ytomijmikkbhgmab
