import Derived.Test.YtomijmikkbhgmaaGreatT41
import Derived.Deep.LoopGhost
namespace Go.Proofs.YtomijmikkbhgmaaGreat
open Go.RowKit

/-- What is left to choose of the weight. -/
theorem chF_cons (n : Nat) (o : List Int) (os : List (List Int)) (wt : Nat) : chF n (o :: os) wt = o.getD (n / (wt / o.length) % o.length) 0 :: chF n os (wt / o.length) := rfl

theorem rdo_hit {E : List Evt} {x : Evt} (h : (x.kind == 0) = true) (R : List Evt) : rdo E (x :: R) = (-1 :: wrs E 0 x.loc) :: rdo E R := by rw [rdo, if_pos h]
theorem rdo_mis {E : List Evt} {x : Evt} (h : (x.kind == 0) = false) (R : List Evt) : rdo E (x :: R) = rdo E R := by rw [rdo, if_neg (by simp [h])]

set_option maxHeartbeats 2000000 in
theorem chooseFrom_any (E : List Evt) (hE : E.length ≤ 96) (v : Value) (w0 w : World) (h : Ev4At w0 v E) (hw : Below w0.heap.size w0 w) (B n wt R : Nat) (hB : w0.heap.size ≤ B) (hc : Chs w B n wt) (hwt : wt = plen (rdo E E) * R) (hR : 1 ≤ R) (hw2 : wt ≤ 2001) (hn2 : n ≤ 2001) :
    Calls Tryz.prog 151 #[.pointer (some ⟨B, 0, none⟩), v] w fun e w' => ∃ u, e = .returned u ∧ IntNew w.heap.size w' u (chF n (rdo E E) wt) ∧ Chs w' B n R ∧ Only B w w' := by
  have HH : Hid (Ev4At w0 v E) := h
  obtain ⟨ao, b, off, cap, hv, ha, _, hcc⟩ := h
  subst hv
  obtain ⟨i0, hi, hz0, hz1, hz2⟩ := info_parts Tryz.info3
  have HI : Hid (Tryz.prog.info? 3 = some i0 ∧ i0.zero = some (.int .i64 0) ∧ i0.size = 1 ∧ i0.bytes = 8) := ⟨hi, hz0, hz1, hz2⟩
  clear hi hz0 hz1 hz2
  have HC : Hid (∀ k x, E[k]? = some x → Ev4C w0 b (off + k * 4) x) := hcc
  clear hcc
  have hBl := hc.lt
  have HCH : Hid (Chs w B n wt) := hc
  generalize hL : chF n (rdo E E) wt = L
  have HL : Hid (chF n (rdo E E) wt = L) := hL
  have HWT : Hid (wt = plen (rdo E E) * R) := hwt
  clear hL hwt hc
  go_enter Tryz.func151, Tryz.ntmps151
  go_wp2_with fail
  go_loopw [5, 12] (fun u i wr => ∃ (k : Nat) (xs : List Int) (wk : Nat), k ≤ E.length ∧ i = .int .i64 k ∧ xs.length ≤ k ∧ Hid (L = xs ++ chF n (rdo E (E.drop k)) wk) ∧ Hid (wk = plen (rdo E (E.drop k)) * R) ∧ wk ≤ 2001 ∧ wr.ownsRow w.heap.size 3 1 u xs.length (xs.map (Value.int .i64)) ∧ Chs wr B n wk ∧ Only B w wr) (fun _ i _ => E.length - (intOf i).toNat)
  case atStart => exact ⟨0, [], wt, Nat.zero_le _, rfl, Nat.le_refl _, HL.out.symm, HWT.out, hw2, World.ownsRow_nil _ _ _ _, HCH.out, Only.refl _ _⟩
  case round =>
    obtain ⟨k, xs, wk, hk, rfl, hxk, hn, hwk, hwk2, hown, hch, ho⟩ := hrel
    have hsz := ho.size
    have hbw : Below w0.heap.size w0 wr := hw.trans (ho.below hB hw.size)
    have hchlt := hch.lt
    by_cases hlt : k < E.length
    · obtain ⟨x, hx⟩ := get_of_lt hlt
      obtain rfl := ha (ne_nil hlt)
      obtain ⟨c0, c1, c2, c3⟩ := ev4C_keeps _ _ _ _ _ hbw (HC.out k x hx)
      have hbl := World.block_lt_of_cell? _ _ c0
      have HN : Hid (L = xs ++ chF n (rdo E (x :: E.drop (k + 1))) wk) := by rw [← drop_cons hx]; exact hn
      have HK : Hid (wk = plen (rdo E (x :: E.drop (k + 1))) * R) := by rw [← drop_cons hx]; exact hwk
      have HCK : Hid (Chs wr B n wk) := hch
      have HO : Hid (Only B w wr) := ho
      clear hn hwk hx ha hch ho
      cases h1 : x.kind == 0
      · have HN1 : Hid (L = xs ++ chF n (rdo E (E.drop (k + 1))) wk) := HN.out.trans (by rw [rdo_mis h1])
        have HK1 : Hid (wk = plen (rdo E (E.drop (k + 1))) * R) := HK.out.trans (by rw [rdo_mis h1])
        go_wp2_with fail
        go_roundw
        case measure => simp [intOf]; omega
        case rel => exact ⟨k + 1, xs, wk, by omega, by go_num, by omega, HN1.out, HK1.out, hwk2, hown.alloc _, HCK.out.below (below_alloc _ _), HO.out.trans (Only.of_below (below_alloc _ _))⟩
      · have hwl := wrs_len E 0 x.loc
        have HN1 : Hid (L = xs ++ chF n ((-1 :: wrs E 0 x.loc) :: rdo E (E.drop (k + 1))) wk) := HN.out.trans (by rw [rdo_hit h1])
        have HK1 : Hid (wk = (-1 :: wrs E 0 x.loc).length * (plen (rdo E (E.drop (k + 1))) * R)) := HK.out.trans (by rw [rdo_hit h1, plen, Nat.mul_assoc])
        generalize hO : -1 :: wrs E 0 x.loc = O at HN1 HK1
        have HOO : Hid (-1 :: wrs E 0 x.loc = O) := hO
        have hOl : 1 ≤ O.length ∧ O.length ≤ 97 := by rw [← hO]; simp; omega
        obtain ⟨hO1, hO2⟩ := hOl
        clear hO hwl HN HK
        have hP := plen_pos (rdo_pos E (E.drop (k + 1)))
        have hPR : 1 ≤ plen (rdo E (E.drop (k + 1))) * R := Nat.mul_le_mul hP hR
        have HQ : Hid (wk / O.length = plen (rdo E (E.drop (k + 1))) * R) := by unfold Hid; rw [HK1.out]; exact Nat.mul_div_cancel_left _ hO1
        have hmw : O.length ≤ wk := by rw [HK1.out]; exact Nat.le_mul_of_pos_right _ hPR
        have hat : n / (wk / O.length) % O.length < O.length := Nat.mod_lt _ hO1
        obtain ⟨y, hy⟩ := get_of_lt hat
        have HN2 : Hid (L = (xs ++ [y]) ++ chF n (rdo E (E.drop (k + 1))) (wk / O.length)) := HN1.out.trans (by rw [chF_cons, List.getD, hy]; simp)
        have hwk3 : wk / O.length ≤ 2001 := Nat.le_trans (Nat.div_le_self _ _) hwk2
        generalize hr : n / (wk / O.length) % O.length = r at hat hy
        have HR : Hid (n / (wk / O.length) % O.length = r) := hr
        have HY : Hid (O[r]? = some y) := hy
        clear hr hy hP hPR
        go_wp2_with fail
        refine (sources_any E hE x.loc _ _ (HH.out.keep (below_more hbw (below_alloc _ _)))).mono ?_
        rw [HOO.out]
        rintro e w3 ⟨u2, rfl, hu2, hb3⟩
        obtain ⟨ao4, b4, off4, cap4, ⟨hv4, ha4, _, hc4⟩, hb4⟩ := hu2
        subst hv4
        obtain rfl := ha4 (ne_nil (by omega : 0 < O.length))
        simp only [World.size_alloc] at hb4
        have hown3 := own_keep (hown.alloc _) hb3
        have hC3 := (HCK.out.below (below_alloc _ _)).below hb3
        have HO3 : Hid (Only B w w3) := HO.out.trans (Only.of_below (below_more (below_alloc _ _) hb3))
        have hap4 : ∀ g, u5.ownBlock = some g → g ≠ b4 := fun g hg => by have := (hown.lt g hg).2; omega
        have hs3 : wr.heap.size + 1 ≤ w3.heap.size := by have := hb3.size; simpa using this
        have HY4 : Hid (w3.cell? ⟨b4, off4 + r, none⟩ = some (.int .i64 y)) := by
          have := hc4 r y HY.out; unfold IntC at this; rwa [Nat.mul_one] at this
        clear hb3 hc4 ha4 hown c0 c1 c2 c3 HCK HO
        go_wp2_with fail
        refine (next_any B n wk O.length _ hC3 hO1 hmw hwk2 hn2).mono ?_
        rw [HR.out]
        rintro e w4 ⟨rfl, hC4, ho4⟩
        have hnB : ∀ g, u5.ownBlock = some g → g ≠ B := fun g hg => by have := (hown3.lt g hg).1; omega
        have hown4 : w4.ownsRow w.heap.size 3 1 u5 xs.length (xs.map (Value.int .i64)) := by
          refine ⟨hown3.1, ?_⟩
          rcases hown3.2 with h2 | ⟨g, cap, cur, hv, hg, hh, r⟩
          · exact Or.inl h2
          · exact Or.inr ⟨g, cap, cur, hv, hg, by rw [ho4.block g (Array.getElem?_eq_some_iff.1 hh).1 (hnB g (by rw [hv]; rfl))]; exact hh, r⟩
        have y4 := ho4.cell HY4.out (by omega)
        have hl4 := World.block_lt_of_cell? _ _ y4
        have hs4 := ho4.size
        have HO4 : Hid (Only B w w4) := HO3.out.trans ho4
        have HC4 : Hid (Chs w4 B n (wk / O.length)) := hC4
        have hrI : (r : Int) < (O.length : Int) := by omega
        clear hown3 hC3 HO3 ho4 hC4 HY4
        go_wp2_with (at_builtin; refine append_new _ rfl (.tmp 27) (.tmp 32) 26 rfl w.heap.size 3 i0 (.int .i64 0) 1 8 Tryz.underlying26 HI.out.1 HI.out.2.1 HI.out.2.2.1 HI.out.2.2.2 rfl (by decide) u5 xs.length (xs.map (Value.int .i64)) rfl (hown4.alloc _) (some ⟨w4.heap.size, 0, none⟩) 1 1 [.int .i64 y] rfl (fun h => by cases h) rfl (fun ad had => by cases had; exact new_one rfl) (by simp [Value.oneCell']) (by unfold maxLen; omega) (by omega) (by simp; omega) ?_)
        intro u' w5 hown' hgrow _
        have HO5 : Hid (Only B w w5) := Only.grown (n := w.heap.size) hgrow (fun kk e => (hown4.lt kk e).1) (HO4.out.trans (Only.of_below (below_alloc _ _))) (Nat.le_refl _)
        have HC5 : Hid (Chs w5 B n (wk / O.length)) := (HC4.out.below (below_alloc _ _)).keep (hgrow.block B (by have := HC4.out.lt; simp; omega) (fun e => hnB B e.symm rfl))
        have HW5 : Hid (w5.ownsRow w.heap.size 3 1 u' (xs ++ [y]).length ((xs ++ [y]).map (Value.int .i64))) := own_snoc hown'
        clear hgrow hown4 hown' HO4 HC4 y4
        go_wp2_with fail
        go_roundw
        case measure => simp [intOf]; omega
        case rel => exact ⟨k + 1, xs ++ [y], wk / O.length, by omega, by go_num, by simp; omega, HN2.out, HQ.out, hwk3, HW5.out, HC5.out, HO5.out⟩
    · have HF : Hid (L = xs) := hn.out.trans (by rw [drop_nil hlt]; simp [rdo, chF])
      have hRk : wk = R := hwk.out.trans (by rw [drop_nil hlt]; simp [rdo, plen])
      subst hRk
      have HCK : Hid (Chs wr B n wk) := hch
      have HO : Hid (Only B w wr) := ho
      clear hn hwk ha hch ho
      go_wp2_with fail
      go_ret
      exact ⟨_, rfl, by rw [HF.out]; exact owns_int hown, HCK.out, HO.out⟩

end Go.Proofs.YtomijmikkbhgmaaGreat

namespace Go.Proofs.YtomijmikkbhgmaaGreat
open Go.RowKit

theorem chO_cons (n m : Nat) (l : List Int) (wt : Nat) : chO n (m + 1) l wt = l.getD (n / (wt / l.length) % l.length) 0 :: chO n m (l.eraseIdx (n / (wt / l.length) % l.length)) (wt / l.length) := rfl

theorem own_only {B : Nat} {w w' : World} {base : Nat} {e : TypeId} {size : Nat} {v : Value} {n : Nat} {xs : List Value} (h : w.ownsRow base e size v n xs) (ho : Only B w w') (hB : ∀ g, v.ownBlock = some g → g ≠ B) : w'.ownsRow base e size v n xs := by
  refine ⟨h.1, ?_⟩
  rcases h.2 with h2 | ⟨g, cap, cur, hv, hg, hh, r⟩
  · exact Or.inl h2
  · exact Or.inr ⟨g, cap, cur, hv, hg, by rw [ho.block g (Array.getElem?_eq_some_iff.1 hh).1 (hB g (by rw [hv]; rfl))]; exact hh, r⟩

set_option maxHeartbeats 2000000 in
theorem chooseOrder_any (l : List Int) (hl : l.length ≤ 96) (v : Value) (w : World) (ao : Option Addr) (b off cap : Nat) (h : SlAt w 1 IntC v l ao b off cap) (B n wt R : Nat) (hbB : b ≠ B) (_hbw : l ≠ [] → b < w.heap.size) (hc : Chs w B n wt) (hwt : wt = fac l.length * R) (hR : 1 ≤ R) (hw2 : wt ≤ 2001) (hn2 : n ≤ 2001) :
    Calls Tryz.prog 152 #[.pointer (some ⟨B, 0, none⟩), v] w fun e w' => ∃ u, e = .returned u ∧ IntOwn w.heap.size w' u (chO n l.length l wt) ∧ Chs w' B n R ∧ Only B w w' := by
  have HH : Hid (SlAt w 1 IntC v l ao b off cap) := h
  have hv := h.hv
  clear h
  subst hv
  obtain ⟨i0, hi, hz0, hz1, hz2⟩ := info_parts Tryz.info3
  have HI : Hid (Tryz.prog.info? 3 = some i0 ∧ i0.zero = some (.int .i64 0) ∧ i0.size = 1 ∧ i0.bytes = 8) := ⟨hi, hz0, hz1, hz2⟩
  clear hi hz0 hz1 hz2
  have hBl := hc.lt
  have HCH : Hid (Chs w B n wt) := hc
  generalize hL : chO n l.length l wt = L
  have HL : Hid (chO n l.length l wt = L) := hL
  have HWT : Hid (wt = fac l.length * R) := hwt
  clear hL hwt hc
  go_enter Tryz.func152, Tryz.ntmps152
  go_wp2_with fail
  go_loopg [5, 6] l.length (fun gk u vl wr => ∃ (xs lf : List Int) (wk : Nat) (ao : Option Addr) (b off cap : Nat), lf.length = gk ∧ vl = .slice ao lf.length cap ∧ xs.length + lf.length ≤ 96 ∧ Hid (L = xs ++ chO n lf.length lf wk) ∧ Hid (wk = fac lf.length * R) ∧ wk ≤ 2001 ∧ wr.ownsRow w.heap.size 3 1 u xs.length (xs.map (Value.int .i64)) ∧ SlAt wr 1 IntC vl lf ao b off cap ∧ b ≠ B ∧ (lf ≠ [] → ∀ g, u.ownBlock = some g → g ≠ b) ∧ Chs wr B n wk ∧ Only B w wr)
  case atStart =>
    exact ⟨[], l, wt, ao, b, off, cap, rfl, rfl, by simpa using hl, HL.out.symm, HWT.out, hw2, World.ownsRow_nil _ _ _ _, HH.out, hbB, fun _ g hg => by simp [Value.ownBlock] at hg, HCH.out, Only.refl _ _⟩
  case round =>
    obtain ⟨xs, lf, wk, aoL, bL, offL, capL, hgk, rfl, hxl, hn, hwk, hwk2, hown, hsl, hbL, hap, hch, ho⟩ := hrel
    clear HH
    have HG : Hid (lf.length = gk) := hgk
    clear hgk
    have hsz := ho.size
    have HCK : Hid (Chs wr B n wk) := hch
    have HO : Hid (Only B w wr) := ho
    have HSL : Hid (SlAt wr 1 IntC (.slice aoL lf.length capL) lf aoL bL offL capL) := hsl
    have ha := hsl.ha
    clear hch ho hsl
    by_cases hlt : 0 < lf.length
    · obtain rfl := ha (ne_nil hlt)
      obtain ⟨m, hm⟩ : ∃ m, lf.length = m + 1 := ⟨lf.length - 1, by omega⟩
      have HM : Hid (lf.length = m + 1) := hm
      have HQ : Hid (wk / lf.length = fac m * R) := by unfold Hid; rw [hwk.out, hm, fac, Nat.mul_assoc]; exact Nat.mul_div_cancel_left _ (by omega)
      have hmw : lf.length ≤ wk := by rw [hwk.out, hm, fac, Nat.mul_assoc]; exact Nat.le_mul_of_pos_right _ (Nat.mul_le_mul (fac_pos m) hR)
      have hat : n / (wk / lf.length) % lf.length < lf.length := Nat.mod_lt _ hlt
      obtain ⟨y, hy⟩ := get_of_lt hat
      have HN2 : Hid (L = (xs ++ [y]) ++ chO n m (lf.eraseIdx (n / (wk / lf.length) % lf.length)) (wk / lf.length)) := hn.out.trans (by
        have e : chO n lf.length lf wk = chO n (m + 1) lf wk := by rw [hm]
        rw [e, chO_cons, List.getD, hy]; simp)
      have hwk3 : wk / lf.length ≤ 2001 := Nat.le_trans (Nat.div_le_self _ _) hwk2
      generalize hr : n / (wk / lf.length) % lf.length = r at hat hy HN2
      have HR : Hid (n / (wk / lf.length) % lf.length = r) := hr
      have HY : Hid (lf[r]? = some y) := hy
      have hap' := hap (ne_nil hlt)
      have HA : Hid ((lf.eraseIdx r).length = m) := by unfold Hid; rw [List.length_eraseIdx, if_pos hat]; omega
      clear hr hy hn hm ha hap
      go_wp2_with fail
      refine (next_any B n wk lf.length _ HCK.out hlt hmw hwk2 hn2).mono ?_
      rw [HR.out]
      rintro e w4 ⟨rfl, hC4, ho4⟩
      have hnB : ∀ g, u5.ownBlock = some g → g ≠ B := fun g hg => by have := (hown.lt g hg).1; omega
      have hown4 := own_only hown ho4 hnB
      have HSL4 : Hid (SlAt w4 1 IntC (.slice (some ⟨bL, offL, none⟩) lf.length capL) lf (some ⟨bL, offL, none⟩) bL offL capL) := IntAt.only HSL.out ho4 hbL
      have y4 : w4.cell? ⟨bL, offL + r, none⟩ = some (.int .i64 y) := by
        have := HSL4.out.hc r y HY.out; unfold IntC at this; rwa [Nat.mul_one] at this
      have hl4 := World.block_lt_of_cell? _ _ y4
      have hs4 := ho4.size
      have HO4 : Hid (Only B w w4) := HO.out.trans ho4
      have HC4 : Hid (Chs w4 B n (wk / lf.length)) := hC4
      have hrI : (r : Int) < (lf.length : Int) := by omega
      clear hown HO ho4 hC4 HSL HCK
      go_wp2_with (at_builtin; refine append_new _ rfl (.tmp 16) (.tmp 21) 26 rfl w.heap.size 3 i0 (.int .i64 0) 1 8 Tryz.underlying26 HI.out.1 HI.out.2.1 HI.out.2.2.1 HI.out.2.2.2 rfl (by decide) u5 xs.length (xs.map (Value.int .i64)) rfl (hown4.alloc _) (some ⟨w4.heap.size, 0, none⟩) 1 1 [.int .i64 y] rfl (fun h => by cases h) rfl (fun ad had => by cases had; exact new_one rfl) (by simp [Value.oneCell']) (by unfold maxLen; omega) (by omega) (by simp; omega) ?_)
      intro u' w5 hown' hgrow hap5
      have HO5 : Hid (Only B w w5) := Only.grown (n := w.heap.size) hgrow (fun kk e => (hown4.lt kk e).1) (HO4.out.trans (Only.of_below (below_alloc _ _))) (Nat.le_refl _)
      have HC5 : Hid (Chs w5 B n (wk / lf.length)) := (HC4.out.below (below_alloc _ _)).keep (hgrow.block B (by have := HC4.out.lt; simp; omega) (fun e => hnB B e.symm rfl))
      have HW5 : Hid (w5.ownsRow w.heap.size 3 1 u' (xs ++ [y]).length ((xs ++ [y]).map (Value.int .i64))) := own_snoc hown'
      have HSL5 : Hid (IntAt w5 (.slice (some ⟨bL, offL, none⟩) lf.length capL) lf) :=
        ⟨_, bL, offL, capL, rfl, fun _ => rfl, fun h => by simp at h, fun j x hx => hgrow.cell (keep_cell (below_alloc _ _) (HSL4.out.hc j x hx)) (fun e => hap' bL e.symm rfl)⟩
      have hs5 : w4.heap.size + 1 ≤ w5.heap.size := by have := hgrow.size; simpa using this
      clear hgrow hown4 hown' HO4 HC4 y4 HSL4 hap5
      go_wp2_with fail
      refine (without_any lf (by omega) r _ _ HSL5.out).mono ?_
      rintro e w6 ⟨u6, rfl, hu6, hb6⟩
      obtain ⟨ao6, b6, off6, cap6, hsl6, hb66⟩ := hu6
      have hv6 := hsl6.hv
      subst hv6
      have HS6 : Hid (SlAt w6 1 IntC (.slice ao6 (lf.eraseIdx r).length cap6) (lf.eraseIdx r) ao6 b6 off6 cap6) := hsl6
      have HO6 : Hid (Only B w w6) := HO5.out.trans (Only.of_below hb6)
      have HC6 : Hid (Chs w6 B n (wk / lf.length)) := HC5.out.below hb6
      have HW6 : Hid (w6.ownsRow w.heap.size 3 1 u' (xs ++ [y]).length ((xs ++ [y]).map (Value.int .i64))) := own_keep HW5.out hb6
      have HAP : Hid (∀ g, u'.ownBlock = some g → g ≠ b6) := fun g hg => by have := (HW5.out.lt g hg).2; omega
      have HB6 : Hid (b6 ≠ B) := by unfold Hid; omega
      clear hsl6 hb6 hb66 HO5 HC5 HW5 HSL5
      go_wp2_with fail
      go_roundg m
      case measure => have := HM.out; have := HG.out; omega
      case rel =>
        have e := HA.out
        refine ⟨xs ++ [y], lf.eraseIdx r, wk / lf.length, ao6, b6, off6, cap6, e, rfl, by simp only [List.length_append, List.length_cons, List.length_nil]; rw [e]; have := HM.out; omega, ?_, ?_, hwk3, HW6.out, HS6.out, HB6.out, fun _ => HAP.out, HC6.out, HO6.out⟩
        · unfold Hid; rw [e]; exact HN2.out
        · unfold Hid; rw [e]; exact HQ.out
    · have h0 : lf = [] := List.eq_nil_of_length_eq_zero (by omega)
      subst h0
      have HF : Hid (L = xs) := hn.out.trans (by simp [chO])
      have hRk : wk = R := hwk.out.trans (by simp [fac])
      subst hRk
      clear hn hwk ha hap
      go_wp2_with fail
      go_ret
      exact ⟨_, rfl, by rw [HF.out]; exact owns_own hown, HCK.out, HO.out⟩

end Go.Proofs.YtomijmikkbhgmaaGreat
