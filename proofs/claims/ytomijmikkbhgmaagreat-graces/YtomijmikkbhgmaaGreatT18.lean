import Derived.Test.YtomijmikkbhgmaaGreatT12
import Derived.Test.YtomijmikkbhgmaaGreatT17
import Derived.Test.YtomijmikkbhgmaaGreatLl
namespace Go.Proofs.YtomijmikkbhgmaaGreat
open Go.RowKit

theorem Box4.only {B : Nat} {w w' : World} {b : Nat} {x : Evt} (h : Box4 w b x) (ho : Only B w w') (hn : b ≠ B) : Box4 w' b x := ⟨ho.cell h.c0 hn, ho.cell h.c1 hn, ho.cell h.c2 hn, ho.cell h.c3 hn⟩

/-- To a Write, from what stands ahead of it in its location's list, or reads from that. -/
def exF (E : List Evt) (R : Nat → Int) : Nat → Nat → Bool := pairB E (fun i j a b => b.kind == 1 && (sameB a b && decide (R i < R j)))

theorem exF_none {E : List Evt} {R : Nat → Int} {j : Nat} {b : Evt} (hj : E[j]? = some b) (hk : (b.kind == 1) = false) (t : Nat) : upT (exF E R) j t = [] := by
  induction t with
  | zero => rfl
  | succ t ih =>
    rw [upT_no]
    · exact ih
    · unfold exF pairB
      rw [hj]
      cases E[t]? with
      | none => rfl
      | some a => simp [hk]

set_option maxRecDepth 20000 in
set_option maxHeartbeats 1000000 in
theorem executed_any (E : List Evt) (hE : E.length ≤ 96) (S R : Nat → Int) (v vs vr : Value) (w : World) (h : Ev4At w v E) (hs : IntAt w vs ((List.range E.length).map S)) (hr : IntAt w vr ((List.range E.length).map R)) :
    Calls Tryz.prog 102 #[v, vs, vr] w fun e w' => ∃ bl, e = .returned (.agg #[.int .i64 E.length, .slice (some ⟨bl, 0, none⟩) (E.length * E.length) (E.length * E.length)]) ∧ w.heap.size ≤ bl ∧ MatAt w' bl E.length (allS (exF E R) S E.length E.length) ∧ Below w.heap.size w w' := by
  obtain ⟨ao, b, off, cap, hv, ha, _, hc⟩ := h
  obtain ⟨aos, bs, offs, caps, hvs, has, _, hcs⟩ := hs
  obtain ⟨aor, br, offr, capr, hvr, har, _, hcr⟩ := hr
  rw [List.length_map, List.length_range] at hvs hvr
  subst hv hvs hvr
  have HC : Hid (∀ k y, E[k]? = some y → Ev4C w b (off + k * 4) y) := hc
  have HS : Hid (∀ k, k < E.length → w.cell? ⟨bs, offs + k, none⟩ = some (.int .i64 (S k))) := fun k hk => by
    have := hcs k (S k) (by simp [hk])
    unfold IntC at this
    rw [Nat.mul_one] at this; exact this
  have HR : Hid (∀ k, k < E.length → w.cell? ⟨br, offr + k, none⟩ = some (.int .i64 (R k))) := fun k hk => by
    have := hcr k (R k) (by simp [hk])
    unfold IntC at this
    rw [Nat.mul_one] at this; exact this
  have HNE : Hid (0 < E.length → aos = some ⟨bs, offs, none⟩ ∧ aor = some ⟨br, offr, none⟩) := fun h0 => ⟨has (ne_nil (k := 0) (by simpa using h0)), har (ne_nil (k := 0) (by simpa using h0))⟩
  have HF : Hid (∀ (i j : Nat) (x y : Evt), E[i]? = some x → E[j]? = some y → exF E R i j = (y.kind == 1 && (sameB x y && decide (R i < R j)))) := fun i j x y hi hj => pairB_get hi hj _
  have HF0 : Hid (∀ (j : Nat) (y : Evt), E[j]? = some y → (y.kind == 1) = false → ∀ t, upT (exF E R) j t = []) := fun j y hj hk t => exF_none hj hk t
  generalize exF E R = f at HF HF0 ⊢
  have HE : Hid (∀ k, k < E.length → ∃ y, E[k]? = some y) := fun k hk => get_of_lt hk
  clear hc hcs hcr has har
  go_enter Tryz.func102, Tryz.ntmps102
  go_wp2_with fail
  refine (new_any E.length hE _).mono ?_
  rintro e w2 ⟨rfl, hm2, hb2⟩
  rw [World.size_alloc] at hm2 hb2 ⊢
  generalize hn : E.length = n at *
  have HM2 : Hid (MatAt w2 (w.heap.size + 1 + 1) n []) := hm2
  have hs2 : w.heap.size + 1 + 1 < w2.heap.size := hm2.lt
  have hbw2 : Below w.heap.size w w2 := (below_alloc _ _).trans (hb2.mono (by omega))
  have d0 := hb2.cell (p := ⟨w.heap.size, 0, none⟩) (by simp)
  have d1 := hb2.cell (p := ⟨w.heap.size, 1, none⟩) (by simp)
  have z0 := hb2.frozen (p := ⟨w.heap.size, 0, none⟩) (by simp)
  have z1 := hb2.frozen (p := ⟨w.heap.size, 1, none⟩) (by simp)
  clear hb2 hm2
  have d0' : w2.cell? ⟨w.heap.size, 0, none⟩ = some (.int .i64 0) := d0.trans (by simp)
  have d1' : w2.cell? ⟨w.heap.size, 1, none⟩ = some (.slice none 0 0) := d1.trans (by simp)
  have z0' : w2.frozen? ⟨w.heap.size, 0, none⟩ = false := z0.trans (by simp)
  have z1' : w2.frozen? ⟨w.heap.size, 1, none⟩ = false := z1.trans (by simp)
  have HD : Hid (w2.cell? ⟨w.heap.size, 0, none⟩ = some (.int .i64 0) ∧ w2.cell? ⟨w.heap.size, 1, none⟩ = some (.slice none 0 0) ∧ w2.frozen? ⟨w.heap.size, 0, none⟩ = false ∧ w2.frozen? ⟨w.heap.size, 1, none⟩ = false) := ⟨d0', d1', z0', z1'⟩
  clear d0 d1 z0 z1 d0' d1' z0' z1'
  go_wp2_with fail
  obtain ⟨bl, hbl⟩ : ∃ bl, w.heap.size + 1 + 1 = bl := ⟨_, rfl⟩
  rw [hbl] at HM2 hs2 ⊢
  have hblw : w.heap.size < bl := by omega
  clear hbl
  have HST0 : Hid (SetAt (w2.alloc (.cells #[.int .i64 n, .slice (some ⟨bl, 0, none⟩) (n * n) (n * n)] 141)) w2.heap.size bl n (allS f S n 0)) := ⟨by simp, by simp, HM2.out.keep (below_alloc _ _), by omega⟩
  have hbW : Below w.heap.size w (w2.alloc (.cells #[.int .i64 n, .slice (some ⟨bl, 0, none⟩) (n * n) (n * n)] 141)) := hbw2.alloc hbw2.size _
  have hsW : w2.heap.size < (w2.alloc (.cells #[.int .i64 n, .slice (some ⟨bl, 0, none⟩) (n * n) (n * n)] 141)).heap.size := by simp
  have HDW : Hid ((w2.alloc (.cells #[.int .i64 n, .slice (some ⟨bl, 0, none⟩) (n * n) (n * n)] 141)).heap[w.heap.size]? = w2.heap[w.heap.size]?) := (below_alloc _ _).block _ (by omega)
  generalize w2.alloc (.cells #[.int .i64 n, .slice (some ⟨bl, 0, none⟩) (n * n) (n * n)] 141) = W at HST0 hbW hsW HDW ⊢
  generalize hp : w2.heap.size = p at *
  clear HM2 hbw2
  have HN : Hid (E.length = n) := hn
  clear hn
  go_loopw [17] (fun i wr => ∃ k : Nat, k ≤ n ∧ i = .int .i64 k ∧ Hid (SetAt wr p bl n (allS f S n k)) ∧ Hid (Only bl W wr)) (fun i _ => n - (intOf i).toNat)
  case atStart => exact ⟨0, Nat.zero_le _, rfl, HST0.out, Only.refl _ _⟩
  case round =>
    clear HST0
    obtain ⟨k, hk, rfl, hset, hon⟩ := hrel
    have HST := hset
    have HON := hon
    have hbr : Below w.heap.size w wr := hbW.trans (hon.out.below (by omega) hbW.size)
    have hszr := hon.out.size
    by_cases hlt : k < n
    · obtain ⟨y, hy⟩ := HE.out k hlt
      have HY : Hid (E[k]? = some y) := hy
      obtain ⟨e1, e2⟩ := HNE.out (by omega)
      subst e1 e2
      obtain rfl := ha (by intro h; rw [h] at hy; simp at hy)
      obtain ⟨c0, c1, c2, c3⟩ := ev4C_keeps _ _ _ _ _ hbr (HC.out k y hy)
      have q0 := keep_cell hbr (HS.out k hlt)
      have m0 := World.block_lt_of_cell? _ _ c0
      have m1 := World.block_lt_of_cell? _ _ q0
      simp only at m0 m1
      have hkI : (k : Int) < (n : Int) := by omega
      clear hset hon hy
      go_wp2_with fail
      have hbox := box4_new wr y 75
      have hba := below_alloc wr (.cells #[.int .i64 y.thread, .int .i64 y.place, .int .i64 y.kind, .int .i64 y.loc] 75)
      refine (add_any n hE _ p bl (S k) (k : Int) _ (HST.out.keep hba)).mono ?_
      rintro e w4 ⟨r4, rfl, hset4, hon4⟩
      have HB4 : Hid (Box4 w4 wr.heap.size y) := hbox.only hon4 (by omega)
      have HON4 : Hid (Only bl W w4) := (HON.out.trans (Only.of_below hba)).trans hon4
      have hs4 : wr.heap.size + 1 ≤ w4.heap.size := by have := hon4.size; simpa using this
      obtain ⟨b0, b1, b2, b3⟩ := HB4.out
      clear c0 c1 c2 c3 q0 m0 m1 hbox hba hon4 HST HON
      cases hk1 : y.kind == 1
      · have hk1' : (y.kind != 1) = true := by simp [bne, hk1]
        have HS4 : Hid (SetAt w4 p bl n (allS f S n (k + 1))) := by rw [allS_step, HF0.out k y HY.out hk1]; exact hset4
        clear hset4
        go_wp2_with fail
        go_roundw
        case measure => simp [intOf]; omega
        case rel => exact ⟨k + 1, by omega, by go_num, HS4.out, HON4.out⟩
      · have hk1' : (y.kind != 1) = false := by simp [bne, hk1]
        have HS4 : Hid (SetAt w4 p bl n (allS f S n k ++ ((S k, (k : Int)) :: upT f k 0))) := hset4
        clear hset4
        go_wp2_with fail
        clear b0 b1 b2 b3
        generalize wr.heap.size = q9 at HB4 hs4 hszr ⊢
        go_loopw [33] (fun i wr => ∃ t : Nat, t ≤ n ∧ i = .int .i64 t ∧ Hid (SetAt wr p bl n (allS f S n k ++ ((S k, (k : Int)) :: upT f k t))) ∧ Hid (Only bl w4 wr)) (fun i _ => n - (intOf i).toNat)
        case atStart => exact ⟨0, Nat.zero_le _, rfl, HS4.out, Only.refl _ _⟩
        case round =>
          clear HS4
          obtain ⟨t, ht, rfl, hset, hon⟩ := hrel
          have HST := hset
          have HON := hon
          have hon5 : Only bl W wr := HON4.out.trans hon.out
          have hbr5 : Below w.heap.size w wr := hbW.trans (hon5.below (by omega) hbW.size)
          have hs5 := hon.out.size
          by_cases htn : t < n
          · obtain ⟨x, hx⟩ := HE.out t htn
            have HFV : Hid (f t k = (sameB x y && decide (R t < R k))) := (HF.out t k x y hx HY.out).trans (by rw [hk1]; rfl)
            obtain ⟨c0, c1, c2, c3⟩ := ev4C_keeps _ _ _ _ _ hbr5 (HC.out t x hx)
            have m0 := World.block_lt_of_cell? _ _ c0
            simp only at m0
            have htI : (t : Int) < (n : Int) := by omega
            have HNO : Hid (f t k = false → upT f k (t + 1) = upT f k t) := fun h => upT_no h
            have HYES : Hid (f t k = true → allS f S n k ++ ((S k, (k : Int)) :: upT f k (t + 1)) = (allS f S n k ++ ((S k, (k : Int)) :: upT f k t)) ++ [((t : Int), (k : Int))]) := fun h => by rw [upT_yes h]; simp
            have HX1 : Hid (∀ w', Below (wr.heap.size + 1) (wr.alloc (.cells #[.int .i64 x.thread, .int .i64 x.place, .int .i64 x.kind, .int .i64 x.loc] 75)) w' → Box4 w' wr.heap.size x ∧ Box4 w' q9 y ∧ w'.cell? ⟨br, offr + t, none⟩ = some (.int .i64 (R t)) ∧ w'.cell? ⟨br, offr + k, none⟩ = some (.int .i64 (R k))) := fun w' hw' => by
              have hw2 : Below (wr.alloc (.cells #[.int .i64 x.thread, .int .i64 x.place, .int .i64 x.kind, .int .i64 x.loc] 75)).heap.size (wr.alloc (.cells #[.int .i64 x.thread, .int .i64 x.place, .int .i64 x.kind, .int .i64 x.loc] 75)) w' := by rw [World.size_alloc]; exact hw'
              have hb7 := below_more (below_alloc _ _) hw2
              exact ⟨(box4_new wr x _).keep hw2, (HB4.out.only hon.out (by omega)).keep hb7, keep_cell (below_more hbr5 hb7) (HR.out t htn), keep_cell (below_more hbr5 hb7) (HR.out k hlt)⟩
            have hba := below_alloc wr (.cells #[.int .i64 x.thread, .int .i64 x.place, .int .i64 x.kind, .int .i64 x.loc] 75)
            have HSA : Hid (SetAt (wr.alloc (.cells #[.int .i64 x.thread, .int .i64 x.place, .int .i64 x.kind, .int .i64 x.loc] 75)) p bl n (allS f S n k ++ ((S k, (k : Int)) :: upT f k t))) := HST.out.keep hba
            have HOA : Hid (Only bl w4 (wr.alloc (.cells #[.int .i64 x.thread, .int .i64 x.place, .int .i64 x.kind, .int .i64 x.loc] 75))) := HON.out.trans (Only.of_below hba)
            clear hset hon hx hba
            generalize hsB : sameB x y = SB at HFV
            have HSB : Hid (sameB x y = SB) := hsB
            clear hsB
            go_wp2_with fail
            clear c0 c1 c2 c3
            generalize hWW : wr.alloc (.cells #[.int .i64 x.thread, .int .i64 x.place, .int .i64 x.kind, .int .i64 x.loc] 75) = W5 at HX1 HSA HOA ⊢
            have hs6 : W5.heap.size = wr.heap.size + 1 := by rw [← hWW]; simp
            generalize wr.heap.size = q11 at *
            rw [← hs6] at HX1
            clear hWW
            obtain ⟨⟨g0, g1, g2, g3⟩, ⟨b0, b1, b2, b3⟩, r0, r1⟩ := HX1.out W5 (Below.refl _ _)
            replace g0 := grown_cell g0
            replace g1 := grown_cell g1
            replace g2 := grown_cell g2
            replace g3 := grown_cell g3
            replace b0 := grown_cell b0
            replace b1 := grown_cell b1
            replace b2 := grown_cell b2
            replace b3 := grown_cell b3
            replace r0 := grown_cell r0
            replace r1 := grown_cell r1
            have hne := grw_some W5
            cases SB
            · have HM : Hid (upT f k (t + 1) = upT f k t) := HNO.out (HFV.out.trans (by rfl))
              refine wp_region_grown (by kernel_rfl) (by kernel_rfl) ?_
              repeat (go_big_quiet_step ((go_at_call 135; refine grown_call (v := .bool false) ?_; rw [← HSB.out]; exact isSameLoc_any x y _)))
              refine wpQuiet_nil ?_
              intro w7 hw7
              obtain ⟨⟨w7', hb7⟩, rfl⟩ := hw7
              have HS7 : Hid (SetAt w7 p bl n (allS f S n k ++ ((S k, (k : Int)) :: upT f k (t + 1)))) := by rw [HM.out]; exact HSA.out.keep hb7
              have HO7 : Hid (Only bl w4 w7) := HOA.out.trans (Only.of_below hb7)
              clear HSA HOA g0 g1 g2 g3 b0 b1 b2 b3 r0 r1
              go_wp2_with fail
              go_roundw
              case measure => simp [intOf]; omega
              case rel => exact ⟨t + 1, by omega, by go_num, HS7.out, HO7.out⟩
            · refine wp_region_grown (by kernel_rfl) (by kernel_rfl) ?_
              repeat (go_big_quiet_step ((go_at_call 135; refine grown_call (v := .bool true) ?_; rw [← HSB.out]; exact isSameLoc_any x y _)))
              refine wpQuiet_nil ?_
              intro w7 hw7
              obtain ⟨⟨w7', hb7⟩, rfl⟩ := hw7
              clear g0 g1 g2 g3 b0 b1 b2 b3 r0 r1
              have HFV2 : Hid (f t k = decide (R t < R k)) := HFV.out.trans (by rw [Bool.true_and])
              have hS7 := HSA.out.keep hb7
              have HO7 : Hid (Only bl w4 w7) := HOA.out.trans (Only.of_below hb7)
              clear HSA HOA HFV
              cases hd : decide (R t < R k)
              · have HM : Hid (upT f k (t + 1) = upT f k t) := HNO.out (HFV2.out.trans hd)
                have HS7 : Hid (SetAt w7 p bl n (allS f S n k ++ ((S k, (k : Int)) :: upT f k (t + 1)))) := by rw [HM.out]; exact hS7
                clear hS7
                go_wp2_with fail
                go_roundw
                case measure => simp [intOf]; omega
                case rel => exact ⟨t + 1, by omega, by go_num, HS7.out, HO7.out⟩
              · have HM : Hid (allS f S n k ++ ((S k, (k : Int)) :: upT f k (t + 1)) = (allS f S n k ++ ((S k, (k : Int)) :: upT f k t)) ++ [((t : Int), (k : Int))]) := HYES.out (HFV2.out.trans hd)
                have HSH : Hid (SetAt w7 p bl n (allS f S n k ++ ((S k, (k : Int)) :: upT f k t))) := hS7
                clear hS7
                go_wp2_with fail
                refine (add_any n hE _ p bl (t : Int) (k : Int) _ HSH.out).mono ?_
                rintro e w8 ⟨r8, rfl, hset8, hon8⟩
                have HS8 : Hid (SetAt w8 p bl n (allS f S n k ++ ((S k, (k : Int)) :: upT f k (t + 1)))) := by rw [HM.out]; exact hset8
                have HO8 : Hid (Only bl w4 w8) := HO7.out.trans hon8
                clear hset8 hon8 HO7 HSH
                go_wp2_with fail
                go_roundw
                case measure => simp [intOf]; omega
                case rel => exact ⟨t + 1, by omega, by go_num, HS8.out, HO8.out⟩
          · have htn2 : t = n := by omega
            subst htn2
            have HS5 : Hid (SetAt wr p bl t (allS f S t (k + 1))) := by rw [allS_step]; exact HST.out
            have HO5 : Hid (Only bl W wr) := hon5
            clear hset hon HST HON hon5
            go_wp2_with fail
            go_roundw
            case measure => simp [intOf]; omega
            case rel => exact ⟨k + 1, by omega, by go_num, HS5.out, HO5.out⟩
    · have hkn : k = n := by omega
      subst hkn
      obtain ⟨s0, s1, hmat, _⟩ := HST.out
      have HMAT : Hid (MatAt wr bl k (allS f S k k)) := hmat
      have hblk : wr.heap[w.heap.size]? = w2.heap[w.heap.size]? := (HON.out.block w.heap.size (by have := hbW.size; omega) (by omega)).trans HDW.out
      have d0 := (World.cell?_of_block (w := w2) (a := ⟨w.heap.size, 0, none⟩) hblk).trans HD.out.1
      have d1 := (World.cell?_of_block (w := w2) (a := ⟨w.heap.size, 1, none⟩) hblk).trans HD.out.2.1
      have z0 := (World.frozen?_of_block (w := w2) (a := ⟨w.heap.size, 0, none⟩) hblk).trans HD.out.2.2.1
      have z1 := (World.frozen?_of_block (w := w2) (a := ⟨w.heap.size, 1, none⟩) hblk).trans HD.out.2.2.2
      clear hset hon HST HON hmat hblk
      go_wp2_with fail
      refine bodyPost_ret (v := .agg #[.int .i64 k, .slice (some ⟨bl, 0, none⟩) (k * k) (k * k)]) (by simp [results, Tryz.results102, go_sem, *]) rfl ⟨bl, by rw [HN.out], by omega, ?_, (hbr.setCell (Nat.le_refl _) _).setCell (Nat.le_refl _) _⟩
      rw [HN.out]
      exact World.rowIs.setOther (World.rowIs.setOther HMAT.out (by simp; omega) _) (by simp; omega) _

end Go.Proofs.YtomijmikkbhgmaaGreat

namespace Go.Proofs.YtomijmikkbhgmaaGreat
open Go.RowKit

def cohQ (_ _ : Nat) (a b : Evt) : Bool := a.thread == b.thread && sameB a b

set_option maxRecDepth 20000 in
set_option maxHeartbeats 1000000 in
theorem isIncoherent_any (E : List Evt) (hE : E.length ≤ 96) (S R : Nat → Int) (v vs vr : Value) (w : World) (h : Ev4Cap w v E) (hs : IntAt w vs ((List.range E.length).map S)) (hr : IntAt w vr ((List.range E.length).map R)) :
    Calls Tryz.prog 100 #[v, vs, vr] w fun e w' => ∃ bb : Bool, e = .returned (.bool bb) ∧ (bb = true ↔ Cyc E.length (allS (exF E R) S E.length E.length ++ allU (pairB E cohQ) E.length)) ∧ Below w.heap.size w w' := by
  have HX : Hid (Calls Tryz.prog 102 #[v, vs, vr] w fun e w' => ∃ bl, e = .returned (.agg #[.int .i64 E.length, .slice (some ⟨bl, 0, none⟩) (E.length * E.length) (E.length * E.length)]) ∧ w.heap.size ≤ bl ∧ MatAt w' bl E.length (allS (exF E R) S E.length E.length) ∧ Below w.heap.size w w') := executed_any E hE S R v vs vr w h.at' hs hr
  obtain ⟨aos, caps, hvs⟩ := hs.form
  obtain ⟨aor, capr, hvr⟩ := hr.form
  obtain ⟨ao, b, off, cap, ⟨hv, ha, _, hc⟩, hcap⟩ := h
  rw [List.length_map, List.length_range] at hvs hvr
  subst hv hvs hvr
  have HC : Hid (∀ k y, E[k]? = some y → Ev4C w b (off + k * 4) y) := hc
  have HF : Hid (∀ (i j : Nat) (x y : Evt), E[i]? = some x → E[j]? = some y → pairB E cohQ i j = (x.thread == y.thread && sameB x y)) := fun i j x y hi hj => pairB_get hi hj _
  generalize pairB E cohQ = f at HF ⊢
  generalize allS (exF E R) S E.length E.length = A0 at HX ⊢
  have HE : Hid (∀ k, k < E.length → ∃ y, E[k]? = some y) := fun k hk => get_of_lt hk
  have HNE : Hid (0 < E.length → ao = some ⟨b, off, none⟩) := fun h0 => ha (ne_nil (k := 0) h0)
  clear hc hs hr ha
  generalize E.length = n at *
  go_enter Tryz.func100, Tryz.ntmps100
  go_wp2_with fail
  refine HX.out.mono ?_
  rintro e w2 ⟨bl, rfl, hblw, hm2, hb2⟩
  have hs2 : bl < w2.heap.size := hm2.lt
  have hba := below_alloc w2 (.cells #[.int .i64 n, .slice (some ⟨bl, 0, none⟩) (n * n) (n * n)] 141)
  have HST0 : Hid (SetAt (w2.alloc (.cells #[.int .i64 n, .slice (some ⟨bl, 0, none⟩) (n * n) (n * n)] 141)) w2.heap.size bl n (A0 ++ allU f 0)) := ⟨by simp, by simp, by show MatAt _ bl n (A0 ++ []); rw [List.append_nil]; exact hm2.keep hba, by omega⟩
  have hbW : Below w.heap.size w (w2.alloc (.cells #[.int .i64 n, .slice (some ⟨bl, 0, none⟩) (n * n) (n * n)] 141)) := hb2.alloc hb2.size _
  have hsW : bl < (w2.alloc (.cells #[.int .i64 n, .slice (some ⟨bl, 0, none⟩) (n * n) (n * n)] 141)).heap.size := by simp; omega
  clear hm2 hb2 hba HX
  go_wp2_with fail
  generalize w2.alloc (.cells #[.int .i64 n, .slice (some ⟨bl, 0, none⟩) (n * n) (n * n)] 141) = W at HST0 hbW hsW ⊢
  generalize w2.heap.size = p at *
  go_loopw [18] (fun i wr => ∃ k : Nat, k ≤ n ∧ i = .int .i64 k ∧ Hid (SetAt wr p bl n (A0 ++ allU f k)) ∧ Hid (Only bl W wr)) (fun i _ => n - (intOf i).toNat)
  case atStart => exact ⟨0, Nat.zero_le _, rfl, HST0.out, Only.refl _ _⟩
  case round =>
    clear HST0
    obtain ⟨k, hk, rfl, hset, hon⟩ := hrel
    have hbr : Below w.heap.size w wr := hbW.trans (hon.out.below hblw hbW.size)
    have hszr := hon.out.size
    by_cases hlt : k < n
    · obtain ⟨y, hy⟩ := HE.out k hlt
      have HY : Hid (E[k]? = some y) := hy
      obtain rfl := HNE.out (by omega)
      obtain ⟨c0, c1, c2, c3⟩ := ev4C_keeps _ _ _ _ _ hbr (HC.out k y hy)
      have m0 := World.block_lt_of_cell? _ _ c0
      simp only at m0
      have hkI : (k : Int) < (n : Int) := by omega
      have hkc : (k : Int) ≤ (cap : Int) := by omega
      have hba := below_alloc wr (.cells #[.int .i64 y.thread, .int .i64 y.place, .int .i64 y.kind, .int .i64 y.loc] 75)
      have HB4 : Hid (Box4 (wr.alloc (.cells #[.int .i64 y.thread, .int .i64 y.place, .int .i64 y.kind, .int .i64 y.loc] 75)) wr.heap.size y) := box4_new wr y _
      have HS4 : Hid (SetAt (wr.alloc (.cells #[.int .i64 y.thread, .int .i64 y.place, .int .i64 y.kind, .int .i64 y.loc] 75)) p bl n (A0 ++ (allU f k ++ upT f k 0))) := by
        show SetAt _ p bl n (A0 ++ (allU f k ++ []))
        rw [List.append_nil]; exact hset.out.keep hba
      have HON4 : Hid (Only bl W (wr.alloc (.cells #[.int .i64 y.thread, .int .i64 y.place, .int .i64 y.kind, .int .i64 y.loc] 75))) := hon.out.trans (Only.of_below hba)
      have hsz4 : wr.heap.size < (wr.alloc (.cells #[.int .i64 y.thread, .int .i64 y.place, .int .i64 y.kind, .int .i64 y.loc] 75)).heap.size := by simp
      clear hset hon hy hba
      go_wp2_with fail
      clear c0 c1 c2 c3 m0
      generalize wr.alloc (.cells #[.int .i64 y.thread, .int .i64 y.place, .int .i64 y.kind, .int .i64 y.loc] 75) = w4 at HB4 HS4 HON4 hsz4 ⊢
      generalize wr.heap.size = q9 at HB4 hszr hsz4 ⊢
      go_loopw [27] (fun i wr => ∃ t : Nat, t ≤ k ∧ i = .int .i64 t ∧ Hid (SetAt wr p bl n (A0 ++ (allU f k ++ upT f k t))) ∧ Hid (Only bl w4 wr)) (fun i _ => k - (intOf i).toNat)
      case atStart => exact ⟨0, Nat.zero_le _, rfl, HS4.out, Only.refl _ _⟩
      case round =>
        clear HS4
        obtain ⟨t, ht, rfl, hset, hon⟩ := hrel
        have hon5 : Only bl W wr := HON4.out.trans hon.out
        have hbr5 : Below w.heap.size w wr := hbW.trans (hon5.below hblw hbW.size)
        have hs5 := hon.out.size
        by_cases htn : t < k
        · obtain ⟨x, hx⟩ := HE.out t (by omega)
          have HFV : Hid (f t k = (x.thread == y.thread && sameB x y)) := HF.out t k x y hx HY.out
          obtain ⟨c0, c1, c2, c3⟩ := ev4C_keeps _ _ _ _ _ hbr5 (HC.out t x hx)
          have m0 := World.block_lt_of_cell? _ _ c0
          simp only at m0
          have htI : (t : Int) < (k : Int) := by omega
          have HNO : Hid (f t k = false → upT f k (t + 1) = upT f k t) := fun h => upT_no h
          have HYES : Hid (f t k = true → A0 ++ (allU f k ++ upT f k (t + 1)) = (A0 ++ (allU f k ++ upT f k t)) ++ [((t : Int), (k : Int))]) := fun h => by rw [upT_yes h]; simp
          have hba := below_alloc wr (.cells #[.int .i64 x.thread, .int .i64 x.place, .int .i64 x.kind, .int .i64 x.loc] 75)
          have hX1 := box4_new wr x 75
          have hX2 := (HB4.out.only hon.out (by omega)).keep hba
          have HSA : Hid (SetAt (wr.alloc (.cells #[.int .i64 x.thread, .int .i64 x.place, .int .i64 x.kind, .int .i64 x.loc] 75)) p bl n (A0 ++ (allU f k ++ upT f k t))) := hset.out.keep hba
          have HOA : Hid (Only bl w4 (wr.alloc (.cells #[.int .i64 x.thread, .int .i64 x.place, .int .i64 x.kind, .int .i64 x.loc] 75))) := hon.out.trans (Only.of_below hba)
          obtain ⟨y0, y1, y2, y3⟩ := HB4.out.only hon.out (by omega)
          have m1 := World.block_lt_of_cell? _ _ y0
          simp only at m1
          clear hset hon hx hba
          cases hth : x.thread == y.thread
          · have HM : Hid (upT f k (t + 1) = upT f k t) := HNO.out (HFV.out.trans (by rw [hth]; rfl))
            have HS7 : Hid (SetAt (wr.alloc (.cells #[.int .i64 x.thread, .int .i64 x.place, .int .i64 x.kind, .int .i64 x.loc] 75)) p bl n (A0 ++ (allU f k ++ upT f k (t + 1)))) := by rw [HM.out]; exact HSA.out
            clear HSA hX1 hX2
            go_wp2_with fail
            go_roundw
            case measure => simp [intOf]; omega
            case rel => exact ⟨t + 1, by omega, by go_num, HS7.out, HOA.out⟩
          · have HFV2 : Hid (f t k = sameB x y) := HFV.out.trans (by rw [hth]; rfl)
            generalize hsB : sameB x y = SB at HFV2
            have HSB : Hid (sameB x y = SB) := hsB
            clear hsB hX1 hX2
            go_wp2_with fail
            refine (isSameLoc_any x y _).mono ?_
            rw [HSB.out]
            rintro e w7 ⟨rfl, hb7⟩
            have hS7 := HSA.out.keep hb7
            have HO7 : Hid (Only bl w4 w7) := HOA.out.trans (Only.of_below hb7)
            clear HSA HOA c0 c1 c2 c3 m0 y0 y1 y2 y3 hb7
            cases SB
            · have HM : Hid (upT f k (t + 1) = upT f k t) := HNO.out HFV2.out
              have HS7 : Hid (SetAt w7 p bl n (A0 ++ (allU f k ++ upT f k (t + 1)))) := by rw [HM.out]; exact hS7
              clear hS7
              go_wp2_with fail
              go_roundw
              case measure => simp [intOf]; omega
              case rel => exact ⟨t + 1, by omega, by go_num, HS7.out, HO7.out⟩
            · have HM : Hid (A0 ++ (allU f k ++ upT f k (t + 1)) = (A0 ++ (allU f k ++ upT f k t)) ++ [((t : Int), (k : Int))]) := HYES.out HFV2.out
              have HSH : Hid (SetAt w7 p bl n (A0 ++ (allU f k ++ upT f k t))) := hS7
              clear hS7
              go_wp2_with fail
              refine (add_any n hE _ p bl (t : Int) (k : Int) _ HSH.out).mono ?_
              rintro e w8 ⟨r8, rfl, hset8, hon8⟩
              have HS8 : Hid (SetAt w8 p bl n (A0 ++ (allU f k ++ upT f k (t + 1)))) := by rw [HM.out]; exact hset8
              have HO8 : Hid (Only bl w4 w8) := HO7.out.trans hon8
              clear hset8 hon8 HO7 HSH
              go_wp2_with fail
              go_roundw
              case measure => simp [intOf]; omega
              case rel => exact ⟨t + 1, by omega, by go_num, HS8.out, HO8.out⟩
        · have htn2 : t = k := by omega
          subst htn2
          have HS5 : Hid (SetAt wr p bl n (A0 ++ allU f (t + 1))) := by rw [allU_step]; exact hset.out
          have HO5 : Hid (Only bl W wr) := hon5
          clear hset hon hon5
          go_wp2_with fail
          go_roundw
          case measure => simp [intOf]; omega
          case rel => exact ⟨t + 1, by omega, by go_num, HS5.out, HO5.out⟩
    · have hkn : k = n := by omega
      subst hkn
      have HST := hset
      clear hset hon
      go_wp2_with fail
      refine (hasCircle_any k hE _ p bl _ HST.out).mono ?_
      rintro e w5 ⟨bb, rfl, hbb, hb5⟩
      have HBB : Hid (bb = true ↔ Cyc k (A0 ++ allU f k)) := hbb
      clear hbb
      go_wp2_with fail
      go_ret
      exact ⟨_, rfl, HBB.out, below_more hbr hb5⟩

end Go.Proofs.YtomijmikkbhgmaaGreat
