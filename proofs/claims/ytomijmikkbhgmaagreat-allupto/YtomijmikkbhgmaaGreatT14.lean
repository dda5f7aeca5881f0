import Derived.Test.YtomijmikkbhgmaaGreatT13
import Derived.Test.YtomijmikkbhgmaaGreatT11
namespace Go.Proofs.YtomijmikkbhgmaaGreat
open Go.RowKit

def keepQ (T : List (List Ins)) (E : List Evt) (i j : Nat) (a b : Evt) : Bool := a.thread == b.thread && (kepB (T.getD a.thread.toNat []) a b || cpyB E i j b)

theorem EvIn.same' {T : List (List Ins)} {a b : Evt} {i p i' p' : Nat} {l l' : List Ins} (ha : EvIn T a i p l) (hb : EvIn T b i' p' l') (h : a.thread = b.thread) : i' = i ∧ l' = l := by
  have h1 := ha.th
  have h2 := hb.th
  have e : i' = i := by omega
  subst e
  have := ha.l0.symm.trans hb.l0
  exact ⟨rfl, (Option.some.inj this).symm⟩
theorem EvIn.getD' {T : List (List Ins)} {a : Evt} {i p : Nat} {l : List Ins} (ha : EvIn T a i p l) : T.getD a.thread.toNat [] = l := by
  rw [ha.th, Int.toNat_natCast, List.getD, ha.l0]; rfl

set_option maxRecDepth 20000 in
set_option maxHeartbeats 1000000 in
theorem addKept_any (T : List (List Ins)) (hS : Short T) (vt : Value) (E : List Evt) (hE : E.length ≤ 96) (hin : EvsIn T E) (v : Value) (A0 : List (Int × Int)) (p bl : Nat) (w0 W : World) (ht : ThrAt w0 vt T) (h : Ev4Cap w0 v E) (hbW : Below w0.heap.size w0 W) (hblw : w0.heap.size ≤ bl) (hst : SetAt W p bl E.length A0) :
    Calls Tryz.prog 103 #[.pointer (some ⟨p, 0, none⟩), vt, v] W fun e w' => ∃ r, e = .returned r ∧ SetAt w' p bl E.length (A0 ++ allU (pairB E (keepQ T E)) E.length) ∧ Only bl W w' := by
  have HKP : Hid (∀ w', Below w0.heap.size w0 w' → ∀ (i j : Nat) (a b : Evt), E[i]? = some a → E[j]? = some b → a.thread = b.thread → Calls Tryz.prog 139 #[vt, e4V a, e4V b] w' fun e w'' => e = .returned (.bool (kepB (T.getD a.thread.toNat []) a b)) ∧ Below w'.heap.size w' w'') := fun w' hb i j a b hi hj hab => by
    obtain ⟨ia, pa, la, ha⟩ := hin a (List.mem_of_getElem? hi)
    obtain ⟨ib, pb, lb, hb2⟩ := hin b (List.mem_of_getElem? hj)
    obtain ⟨rfl, rfl⟩ := ha.same' hb2 hab
    rw [ha.getD']
    exact isKept_any T hS vt a b ib pa pb lb ha hb2 w' (ht.keep hb)
  have HCP : Hid (∀ w', Below w0.heap.size w0 w' → ∀ (i j : Nat) (b : Evt), E[j]? = some b → Calls Tryz.prog 140 #[vt, v, .int .i64 i, .int .i64 j] w' fun e w'' => e = .returned (.bool (cpyB E i j b)) ∧ Below w'.heap.size w' w'') := fun w' hb i j b hj => isCopied_any T hS vt E hE hin i j b hj v w' (ht.keep hb) (h.at'.keep hb)
  obtain ⟨_, aoT, bT, offT, capT, hvT, _⟩ := ht
  obtain ⟨ao, b, off, cap, ⟨hv, ha, _, hc⟩, hcap⟩ := h
  subst hv hvT
  have HC : Hid (∀ k y, E[k]? = some y → Ev4C w0 b (off + k * 4) y) := hc
  have HF : Hid (∀ (i j : Nat) (x y : Evt), E[i]? = some x → E[j]? = some y → pairB E (keepQ T E) i j = (x.thread == y.thread && (kepB (T.getD x.thread.toNat []) x y || cpyB E i j y))) := fun i j x y hi hj => pairB_get hi hj _
  generalize pairB E (keepQ T E) = f at HF ⊢
  have HE : Hid (∀ k, k < E.length → ∃ y, E[k]? = some y) := fun k hk => get_of_lt hk
  have HNE : Hid (0 < E.length → ao = some ⟨b, off, none⟩) := fun h0 => ha (ne_nil (k := 0) h0)
  have HST0 : Hid (SetAt W p bl E.length (A0 ++ allU f 0)) := by
    show SetAt W p bl E.length (A0 ++ [])
    rw [List.append_nil]; exact hst
  have hsW := hst.mat.lt
  clear hc ha hst hS hin
  generalize E.length = n at *
  go_enter Tryz.func103, Tryz.ntmps103
  go_wp2_with fail
  go_loopw [12] (fun i wr => ∃ k : Nat, k ≤ n ∧ i = .int .i64 k ∧ Hid (SetAt wr p bl n (A0 ++ allU f k)) ∧ Hid (Only bl W wr)) (fun i _ => n - (intOf i).toNat)
  case atStart => exact ⟨0, Nat.zero_le _, rfl, HST0.out, Only.refl _ _⟩
  case round =>
    clear HST0
    obtain ⟨k, hk, rfl, hset, hon⟩ := hrel
    have hbr : Below w0.heap.size w0 wr := hbW.trans (hon.out.below hblw hbW.size)
    have hszr := hon.out.size
    by_cases hlt : k < n
    · obtain ⟨y, hy⟩ := HE.out k hlt
      have HY : Hid (E[k]? = some y) := hy
      obtain rfl := HNE.out (by omega)
      obtain ⟨c0, c1, c2, c3⟩ := ev4C_keeps _ _ _ _ _ hbr (HC.out k y hy)
      have m0 := World.block_lt_of_cell? _ _ c0
      simp only at m0
      have hkI : (k : Int) < (n : Int) := by omega
      have hkc : (k : Int) ≤ (cap : Int) := by omega
      have hba := below_alloc wr (.cells #[.int .i64 y.thread, .int .i64 y.place, .int .i64 y.kind, .int .i64 y.loc] 75)
      have HB4 : Hid (Box4 (wr.alloc (.cells #[.int .i64 y.thread, .int .i64 y.place, .int .i64 y.kind, .int .i64 y.loc] 75)) wr.heap.size y) := box4_new wr y _
      have HS4 : Hid (SetAt (wr.alloc (.cells #[.int .i64 y.thread, .int .i64 y.place, .int .i64 y.kind, .int .i64 y.loc] 75)) p bl n (A0 ++ (allU f k ++ upT f k 0))) := by
        show SetAt _ p bl n (A0 ++ (allU f k ++ []))
        rw [List.append_nil]; exact hset.out.keep hba
      have HON4 : Hid (Only bl W (wr.alloc (.cells #[.int .i64 y.thread, .int .i64 y.place, .int .i64 y.kind, .int .i64 y.loc] 75))) := hon.out.trans (Only.of_below hba)
      have hsz4 : wr.heap.size < (wr.alloc (.cells #[.int .i64 y.thread, .int .i64 y.place, .int .i64 y.kind, .int .i64 y.loc] 75)).heap.size := by simp
      clear hset hon hy hba
      go_wp2_with fail
      clear c0 c1 c2 c3 m0
      generalize wr.alloc (.cells #[.int .i64 y.thread, .int .i64 y.place, .int .i64 y.kind, .int .i64 y.loc] 75) = w4 at HB4 HS4 HON4 hsz4 ⊢
      generalize wr.heap.size = q9 at HB4 hszr hsz4 ⊢
      go_loopw [21] (fun i wr => ∃ t : Nat, t ≤ k ∧ i = .int .i64 t ∧ Hid (SetAt wr p bl n (A0 ++ (allU f k ++ upT f k t))) ∧ Hid (Only bl w4 wr)) (fun i _ => k - (intOf i).toNat)
      case atStart => exact ⟨0, Nat.zero_le _, rfl, HS4.out, Only.refl _ _⟩
      case round =>
        clear HS4
        obtain ⟨t, ht, rfl, hset, hon⟩ := hrel
        have hon5 : Only bl W wr := HON4.out.trans hon.out
        have hbr5 : Below w0.heap.size w0 wr := hbW.trans (hon5.below hblw hbW.size)
        have hs5 := hon.out.size
        by_cases htn : t < k
        · obtain ⟨x, hx⟩ := HE.out t (by omega)
          have HXX : Hid (E[t]? = some x) := hx
          have HFV : Hid (f t k = (x.thread == y.thread && (kepB (T.getD x.thread.toNat []) x y || cpyB E t k y))) := HF.out t k x y hx HY.out
          obtain ⟨c0, c1, c2, c3⟩ := ev4C_keeps _ _ _ _ _ hbr5 (HC.out t x hx)
          have m0 := World.block_lt_of_cell? _ _ c0
          simp only at m0
          have htI : (t : Int) < (k : Int) := by omega
          have HNO : Hid (f t k = false → upT f k (t + 1) = upT f k t) := fun h => upT_no h
          have HYES : Hid (f t k = true → A0 ++ (allU f k ++ upT f k (t + 1)) = (A0 ++ (allU f k ++ upT f k t)) ++ [((t : Int), (k : Int))]) := fun h => by rw [upT_yes h]; simp
          have hba := below_alloc wr (.cells #[.int .i64 x.thread, .int .i64 x.place, .int .i64 x.kind, .int .i64 x.loc] 75)
          have HSA : Hid (SetAt (wr.alloc (.cells #[.int .i64 x.thread, .int .i64 x.place, .int .i64 x.kind, .int .i64 x.loc] 75)) p bl n (A0 ++ (allU f k ++ upT f k t))) := hset.out.keep hba
          have HOA : Hid (Only bl w4 (wr.alloc (.cells #[.int .i64 x.thread, .int .i64 x.place, .int .i64 x.kind, .int .i64 x.loc] 75))) := hon.out.trans (Only.of_below hba)
          have hbr6 : Below w0.heap.size w0 (wr.alloc (.cells #[.int .i64 x.thread, .int .i64 x.place, .int .i64 x.kind, .int .i64 x.loc] 75)) := below_more hbr5 hba
          obtain ⟨y0, y1, y2, y3⟩ := HB4.out.only hon.out (by omega)
          have m1 := World.block_lt_of_cell? _ _ y0
          simp only at m1
          clear hset hon hx hba
          cases hth : x.thread == y.thread
          · have hth' : (x.thread != y.thread) = true := by simp [bne, hth]
            have HM : Hid (upT f k (t + 1) = upT f k t) := HNO.out (HFV.out.trans (by rw [hth]; rfl))
            have HS7 : Hid (SetAt (wr.alloc (.cells #[.int .i64 x.thread, .int .i64 x.place, .int .i64 x.kind, .int .i64 x.loc] 75)) p bl n (A0 ++ (allU f k ++ upT f k (t + 1)))) := by rw [HM.out]; exact HSA.out
            clear HSA
            go_wp2_with fail
            go_roundw
            case measure => simp [intOf]; omega
            case rel => exact ⟨t + 1, by omega, by go_num, HS7.out, HOA.out⟩
          · have hth' : (x.thread != y.thread) = false := by simp [bne, hth]
            have HFV2 : Hid (f t k = (kepB (T.getD x.thread.toNat []) x y || cpyB E t k y)) := HFV.out.trans (by rw [hth]; rfl)
            have HK1 : Hid (∀ w', Below w0.heap.size w0 w' → Calls Tryz.prog 139 #[.slice aoT T.length capT, e4V x, e4V y] w' fun e w'' => e = .returned (.bool (kepB (T.getD x.thread.toNat []) x y)) ∧ Below w'.heap.size w' w'') := fun w' hb => HKP.out w' hb t k x y HXX.out HY.out (by simpa using hth)
            have HK2 : Hid (∀ w', Below w0.heap.size w0 w' → Calls Tryz.prog 140 #[.slice aoT T.length capT, .slice (some ⟨b, off, none⟩) n cap, .int .i64 t, .int .i64 k] w' fun e w'' => e = .returned (.bool (cpyB E t k y)) ∧ Below w'.heap.size w' w'') := fun w' hb => HCP.out w' hb t k y HY.out
            generalize kepB (T.getD x.thread.toNat []) x y = KB at HFV2 HK1
            generalize cpyB E t k y = CB at HFV2 HK2
            go_wp2_with fail
            refine (HK1.out _ hbr6).mono ?_
            rintro e w7 ⟨rfl, hb7⟩
            have hS7 := HSA.out.keep hb7
            have hO7 := HOA.out.trans (Only.of_below hb7)
            have hbr7 := below_more hbr6 hb7
            clear HSA HOA c0 c1 c2 c3 m0 y0 y1 y2 y3 hb7 hbr6
            cases KB
            · have HSH : Hid (SetAt w7 p bl n (A0 ++ (allU f k ++ upT f k t))) := hS7
              have HOH : Hid (Only bl w4 w7) := hO7
              clear hS7 hO7
              go_wp2_with fail
              refine (HK2.out _ hbr7).mono ?_
              rintro e w8 ⟨rfl, hb8⟩
              have hS8 := HSH.out.keep hb8
              have HO8 : Hid (Only bl w4 w8) := HOH.out.trans (Only.of_below hb8)
              clear HSH HOH hb8
              cases CB
              · have HM : Hid (upT f k (t + 1) = upT f k t) := HNO.out HFV2.out
                have HS8 : Hid (SetAt w8 p bl n (A0 ++ (allU f k ++ upT f k (t + 1)))) := by rw [HM.out]; exact hS8
                clear hS8
                go_wp2_with fail
                go_roundw
                case measure => simp [intOf]; omega
                case rel => exact ⟨t + 1, by omega, by go_num, HS8.out, HO8.out⟩
              · have HM : Hid (A0 ++ (allU f k ++ upT f k (t + 1)) = (A0 ++ (allU f k ++ upT f k t)) ++ [((t : Int), (k : Int))]) := HYES.out HFV2.out
                have HSH : Hid (SetAt w8 p bl n (A0 ++ (allU f k ++ upT f k t))) := hS8
                clear hS8
                go_wp2_with fail
                refine (add_any n hE _ p bl (t : Int) (k : Int) _ HSH.out).mono ?_
                rintro e w9 ⟨r9, rfl, hset9, hon9⟩
                have HS9 : Hid (SetAt w9 p bl n (A0 ++ (allU f k ++ upT f k (t + 1)))) := by rw [HM.out]; exact hset9
                have HO9 : Hid (Only bl w4 w9) := HO8.out.trans hon9
                clear hset9 hon9 HO8 HSH
                go_wp2_with fail
                go_roundw
                case measure => simp [intOf]; omega
                case rel => exact ⟨t + 1, by omega, by go_num, HS9.out, HO9.out⟩
            · have HM : Hid (A0 ++ (allU f k ++ upT f k (t + 1)) = (A0 ++ (allU f k ++ upT f k t)) ++ [((t : Int), (k : Int))]) := HYES.out HFV2.out
              have HSH : Hid (SetAt w7 p bl n (A0 ++ (allU f k ++ upT f k t))) := hS7
              have HO8 : Hid (Only bl w4 w7) := hO7
              clear hS7 hO7
              go_wp2_with fail
              refine (add_any n hE _ p bl (t : Int) (k : Int) _ HSH.out).mono ?_
              rintro e w9 ⟨r9, rfl, hset9, hon9⟩
              have HS9 : Hid (SetAt w9 p bl n (A0 ++ (allU f k ++ upT f k (t + 1)))) := by rw [HM.out]; exact hset9
              have HO9 : Hid (Only bl w4 w9) := HO8.out.trans hon9
              clear hset9 hon9 HO8 HSH
              go_wp2_with fail
              go_roundw
              case measure => simp [intOf]; omega
              case rel => exact ⟨t + 1, by omega, by go_num, HS9.out, HO9.out⟩
        · have htn2 : t = k := by omega
          subst htn2
          have HS5 : Hid (SetAt wr p bl n (A0 ++ allU f (t + 1))) := by rw [allU_step]; exact hset.out
          have HO5 : Hid (Only bl W wr) := hon5
          clear hset hon hon5
          go_wp2_with fail
          go_roundw
          case measure => simp [intOf]; omega
          case rel => exact ⟨t + 1, by omega, by go_num, HS5.out, HO5.out⟩
    · have hkn : k = n := by omega
      subst hkn
      have HST := hset
      have HON := hon
      clear hset hon
      go_wp2_with fail
      exact bodyPost_end (v := .tuple #[]) (results_none rfl _ _ _) rfl ⟨_, rfl, HST.out, HON.out⟩

end Go.Proofs.YtomijmikkbhgmaaGreat

namespace Go.Proofs.YtomijmikkbhgmaaGreat
open Go.RowKit

def torQ (E : List Evt) (R : Nat → Int) : Nat → Nat → Bool := pairB E (fun i j a b => swapB a b && (R j != R i + 1))
def tornQ (f : Nat → Nat → Bool) (n : Nat) : Bool := (List.range n).any fun j => (List.range j).any fun i => f i j

theorem range_drop {n k : Nat} (h : k < n) : (List.range n).drop k = k :: (List.range n).drop (k + 1) := by
  rw [List.drop_eq_getElem_cons (by simpa using h)]; simp

set_option maxRecDepth 20000 in
set_option maxHeartbeats 1000000 in
theorem isTorn_any (E : List Evt) (hE : E.length ≤ 96) (R : Nat → Int) (hRb : ∀ i, i < E.length → 0 ≤ R i ∧ R i ≤ 1000) (v vr : Value) (w : World) (h : Ev4Cap w v E) (hr : IntAt w vr ((List.range E.length).map R)) :
    Calls Tryz.prog 101 #[v, vr] w fun e w' => e = .returned (.bool (tornQ (torQ E R) E.length)) ∧ Below w.heap.size w w' := by
  obtain ⟨ao, b, off, cap, ⟨hv, ha, _, hc⟩, hcap⟩ := h
  obtain ⟨aor, br, offr, capr, hvr, har, _, hcr⟩ := hr
  rw [List.length_map, List.length_range] at hvr
  subst hv hvr
  have HC : Hid (∀ k y, E[k]? = some y → Ev4C w b (off + k * 4) y) := hc
  have HR : Hid (∀ k, k < E.length → w.cell? ⟨br, offr + k, none⟩ = some (.int .i64 (R k))) := fun k hk => by
    have := hcr k (R k) (by simp [hk])
    unfold IntC at this
    rw [Nat.mul_one] at this; exact this
  have HRB : Hid (∀ i, i < E.length → 0 ≤ R i ∧ R i ≤ 1000) := hRb
  have HNE : Hid (0 < E.length → ao = some ⟨b, off, none⟩ ∧ aor = some ⟨br, offr, none⟩) := fun h0 => ⟨ha (ne_nil (k := 0) h0), har (ne_nil (k := 0) (by simpa using h0))⟩
  have HF : Hid (∀ (i j : Nat) (x y : Evt), E[i]? = some x → E[j]? = some y → torQ E R i j = (swapB x y && (R j != R i + 1))) := fun i j x y hi hj => pairB_get hi hj _
  generalize torQ E R = f at HF ⊢
  have HE : Hid (∀ k, k < E.length → ∃ y, E[k]? = some y) := fun k hk => get_of_lt hk
  clear hc hcr har ha hRb
  generalize E.length = n at *
  have HB : Hid (tornQ f n = ((List.range n).drop 0).any fun j => (List.range j).any fun i => f i j) := rfl
  generalize tornQ f n = B at HB ⊢
  go_enter Tryz.func101, Tryz.ntmps101
  go_wp2_with fail
  go_loopw [11] (fun i wr => ∃ k : Nat, k ≤ n ∧ i = .int .i64 k ∧ Hid (B = ((List.range n).drop k).any fun j => (List.range j).any fun i => f i j) ∧ Below w.heap.size w wr) (fun i _ => n - (intOf i).toNat)
  case atStart => exact ⟨0, Nat.zero_le _, rfl, HB.out, Below.refl _ _⟩
  case round =>
    clear HB
    obtain ⟨k, hk, rfl, hB, hbr⟩ := hrel
    have hszr := hbr.size
    by_cases hlt : k < n
    · obtain ⟨y, hy⟩ := HE.out k hlt
      have HY : Hid (E[k]? = some y) := hy
      obtain ⟨e1, e2⟩ := HNE.out (by omega)
      subst e1 e2
      obtain ⟨c0, c1, c2, c3⟩ := ev4C_keeps _ _ _ _ _ hbr (HC.out k y hy)
      have m0 := World.block_lt_of_cell? _ _ c0
      simp only at m0
      have hkI : (k : Int) < (n : Int) := by omega
      have hkc : (k : Int) ≤ (cap : Int) := by omega
      have HB1 : Hid (B = (((List.range k).drop 0).any (fun i => f i k) || ((List.range n).drop (k + 1)).any fun j => (List.range j).any fun i => f i j)) := hB.out.trans (by rw [range_drop hlt]; rfl)
      generalize hRB : (((List.range n).drop (k + 1)).any fun j => (List.range j).any fun i => f i j) = RB at HB1
      have HRBq : Hid ((((List.range n).drop (k + 1)).any fun j => (List.range j).any fun i => f i j) = RB) := hRB
      have hba := below_alloc wr (.cells #[.int .i64 y.thread, .int .i64 y.place, .int .i64 y.kind, .int .i64 y.loc] 75)
      have HB4 : Hid (Box4 (wr.alloc (.cells #[.int .i64 y.thread, .int .i64 y.place, .int .i64 y.kind, .int .i64 y.loc] 75)) wr.heap.size y) := box4_new wr y _
      have hb4 : Below w.heap.size w (wr.alloc (.cells #[.int .i64 y.thread, .int .i64 y.place, .int .i64 y.kind, .int .i64 y.loc] 75)) := below_more hbr hba
      have hsz4 : wr.heap.size < (wr.alloc (.cells #[.int .i64 y.thread, .int .i64 y.place, .int .i64 y.kind, .int .i64 y.loc] 75)).heap.size := by simp
      clear hB hy hba hRB
      go_wp2_with fail
      clear c0 c1 c2 c3 m0 hbr
      generalize wr.alloc (.cells #[.int .i64 y.thread, .int .i64 y.place, .int .i64 y.kind, .int .i64 y.loc] 75) = w4 at HB4 hb4 hsz4 ⊢
      generalize wr.heap.size = q9 at HB4 hszr hsz4 ⊢
      go_loopw [20] (fun i wr => ∃ t : Nat, t ≤ k ∧ i = .int .i64 t ∧ Hid (B = (((List.range k).drop t).any (fun i => f i k) || RB)) ∧ Below w4.heap.size w4 wr) (fun i _ => k - (intOf i).toNat)
      case atStart => exact ⟨0, Nat.zero_le _, rfl, HB1.out, Below.refl _ _⟩
      case round =>
        clear HB1
        obtain ⟨t, ht, rfl, hB, hb5⟩ := hrel
        have hbr5 : Below w.heap.size w wr := below_more hb4 hb5
        have hs5 := hb5.size
        by_cases htn : t < k
        · obtain ⟨x, hx⟩ := HE.out t (by omega)
          have HN : Hid (B = (f t k || (((List.range k).drop (t + 1)).any (fun i => f i k) || RB))) := hB.out.trans (by rw [range_drop htn, List.any_cons, Bool.or_assoc])
          have HFV : Hid (f t k = (swapB x y && (R k != R t + 1))) := HF.out t k x y hx HY.out
          obtain ⟨c0, c1, c2, c3⟩ := ev4C_keeps _ _ _ _ _ hbr5 (HC.out t x hx)
          have m0 := World.block_lt_of_cell? _ _ c0
          simp only at m0
          have htI : (t : Int) < (k : Int) := by omega
          have htI2 : (t : Int) < (n : Int) := by omega
          obtain ⟨hR1, hR2⟩ := HRB.out t (by omega)
          have HX1 : Hid (∀ w', Below (wr.heap.size + 1) (wr.alloc (.cells #[.int .i64 x.thread, .int .i64 x.place, .int .i64 x.kind, .int .i64 x.loc] 75)) w' → Box4 w' wr.heap.size x ∧ Box4 w' q9 y ∧ w'.cell? ⟨br, offr + t, none⟩ = some (.int .i64 (R t)) ∧ w'.cell? ⟨br, offr + k, none⟩ = some (.int .i64 (R k))) := fun w' hw' => by
            have hw2 : Below (wr.alloc (.cells #[.int .i64 x.thread, .int .i64 x.place, .int .i64 x.kind, .int .i64 x.loc] 75)).heap.size (wr.alloc (.cells #[.int .i64 x.thread, .int .i64 x.place, .int .i64 x.kind, .int .i64 x.loc] 75)) w' := by rw [World.size_alloc]; exact hw'
            have hb7 := below_more (below_alloc _ _) hw2
            exact ⟨(box4_new wr x _).keep hw2, (HB4.out.keep hb5).keep hb7, keep_cell (below_more hbr5 hb7) (HR.out t (by omega)), keep_cell (below_more hbr5 hb7) (HR.out k hlt)⟩
          have HOA : Hid (Below w4.heap.size w4 (wr.alloc (.cells #[.int .i64 x.thread, .int .i64 x.place, .int .i64 x.kind, .int .i64 x.loc] 75))) := below_more hb5 (below_alloc _ _)
          generalize hsB : swapB x y = SB at HFV
          have HSB : Hid (swapB x y = SB) := hsB
          clear hsB hB hx
          go_wp2_with fail
          clear c0 c1 c2 c3 m0 hbr5
          generalize hWW : wr.alloc (.cells #[.int .i64 x.thread, .int .i64 x.place, .int .i64 x.kind, .int .i64 x.loc] 75) = W5 at HX1 HOA ⊢
          have hs6 : W5.heap.size = wr.heap.size + 1 := by rw [← hWW]; simp
          clear hb5
          generalize wr.heap.size = q11 at *
          rw [← hs6] at HX1
          clear hWW
          obtain ⟨⟨g0, g1, g2, g3⟩, ⟨b0, b1, b2, b3⟩, r0, r1⟩ := HX1.out W5 (Below.refl _ _)
          replace g0 := grown_cell g0
          replace g1 := grown_cell g1
          replace g2 := grown_cell g2
          replace g3 := grown_cell g3
          replace b0 := grown_cell b0
          replace b1 := grown_cell b1
          replace b2 := grown_cell b2
          replace b3 := grown_cell b3
          replace r0 := grown_cell r0
          replace r1 := grown_cell r1
          have hne := grw_some W5
          cases SB
          · have HM : Hid (B = (((List.range k).drop (t + 1)).any (fun i => f i k) || RB)) := HN.out.trans (by rw [HFV.out]; rfl)
            refine wp_region_grown (by kernel_rfl) (by kernel_rfl) ?_
            repeat (go_big_quiet_step ((go_at_call 137; refine grown_call (v := .bool false) ?_; rw [← HSB.out]; exact isSwap_any x y _)))
            refine wpQuiet_nil ?_
            intro w7 hw7
            obtain ⟨⟨w7', hb7⟩, rfl⟩ := hw7
            have hb8 := below_more HOA.out hb7
            clear HOA g0 g1 g2 g3 b0 b1 b2 b3 r0 r1 hb7
            go_wp2_with fail
            go_roundw
            case measure => simp [intOf]; omega
            case rel => exact ⟨t + 1, by omega, by go_num, HM.out, hb8⟩
          · have hwr : IntKind.i64.wrap (R t + 1) = R t + 1 := by rw [IntKind.wrap_i64]; omega
            refine wp_region_grown (by kernel_rfl) (by kernel_rfl) ?_
            repeat (go_big_quiet_step ((go_at_call 137; refine grown_call (v := .bool true) ?_; rw [← HSB.out]; exact isSwap_any x y _)))
            refine wpQuiet_nil ?_
            intro w7 hw7
            obtain ⟨⟨w7', hb7⟩, rfl⟩ := hw7
            have hb8 := below_more HOA.out hb7
            clear HOA g0 g1 g2 g3 b0 b1 b2 b3 r0 r1 hb7
            cases hd : R k != R t + 1
            · have HM : Hid (B = (((List.range k).drop (t + 1)).any (fun i => f i k) || RB)) := HN.out.trans (by rw [HFV.out, hd]; rfl)
              go_wp2_with fail
              go_roundw
              case measure => simp [intOf]; omega
              case rel => exact ⟨t + 1, by omega, by go_num, HM.out, hb8⟩
            · have HM : Hid (B = true) := HN.out.trans (by rw [HFV.out, hd]; rfl)
              go_wp2_with fail
              go_ret
              exact ⟨by rw [HM.out]; rfl, below_more hb4 hb8⟩
        · have HM : Hid (B = RB) := hB.out.trans (by rw [drop_nil (l := List.range k) (k := t) (by simpa using htn)]; rfl)
          have htI : (k : Int) ≤ (t : Int) := by omega
          clear hB
          go_wp2_with fail
          go_roundw
          case measure => simp [intOf]; omega
          case rel => exact ⟨k + 1, by omega, by go_num, by rw [HRBq.out]; exact HM.out, hbr5⟩
    · have HM : Hid (B = false) := hB.out.trans (by rw [drop_nil (l := List.range n) (k := k) (by simpa using hlt)]; rfl)
      have hkI : (n : Int) ≤ (k : Int) := by omega
      clear hB
      go_wp2_with fail
      go_ret
      exact ⟨by rw [HM.out]; rfl, hbr⟩

end Go.Proofs.YtomijmikkbhgmaaGreat
