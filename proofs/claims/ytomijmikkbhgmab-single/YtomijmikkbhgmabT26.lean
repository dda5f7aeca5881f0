import Derived.Test.YtomijmikkbhgmabT25
import Derived.Deep.LoopGhost
import Derived.Test.YtomijmikkbhgmabT5
import Derived.Test.YtomijmikkbhgmabT19
import Derived.Test.YtomijmikkbhgmabT22
import Derived.Test.YtomijmikkbhgmabOe
namespace Go.Proofs.Ytomijmikkbhgmab
open Go.RowKit

/-- What is left to choose of the weight. -/
theorem chF_cons (n : Nat) (o : List Int) (os : List (List Int)) (wt : Nat) : chF n (o :: os) wt = o.getD (n / (wt / o.length) % o.length) 0 :: chF n os (wt / o.length) := rfl

theorem rdo_hit {E : List Evt} {x : Evt} (h : (x.kind == 0) = true) (R : List Evt) : rdo E (x :: R) = (-1 :: wrs E 0 x.loc) :: rdo E R := by rw [rdo, if_pos h]
theorem rdo_mis {E : List Evt} {x : Evt} (h : (x.kind == 0) = false) (R : List Evt) : rdo E (x :: R) = rdo E R := by rw [rdo, if_neg (by simp [h])]

set_option maxHeartbeats 2000000 in
theorem chooseFrom_any (E : List Evt) (hE : E.length ≤ 96) (v : Value) (w0 w : World) (h : Ev4At w0 v E) (hw : Below w0.heap.size w0 w) (B n wt R : Nat) (hB : w0.heap.size ≤ B) (hc : Chs w B n wt) (hwt : wt = plen (rdo E E) * R) (hR : 1 ≤ R) (hw2 : wt ≤ 2001) (hn2 : n ≤ 2001) :
    Calls Try.prog 93 #[.pointer (some ⟨B, 0, none⟩), v] w fun e w' => ∃ u, e = .returned u ∧ IntNew w.heap.size w' u (chF n (rdo E E) wt) ∧ Chs w' B n R ∧ Only B w w' := by
  have HH : Hid (Ev4At w0 v E) := h
  obtain ⟨ao, b, off, cap, hv, ha, _, hcc⟩ := h
  subst hv
  obtain ⟨i0, hi, hz0, hz1, hz2⟩ := info_parts Try.info3
  have HI : Hid (Try.prog.info? 3 = some i0 ∧ i0.zero = some (.int .i64 0) ∧ i0.size = 1 ∧ i0.bytes = 8) := ⟨hi, hz0, hz1, hz2⟩
  clear hi hz0 hz1 hz2
  have HC : Hid (∀ k x, E[k]? = some x → Ev4C w0 b (off + k * 4) x) := hcc
  clear hcc
  have hBl := hc.lt
  have HCH : Hid (Chs w B n wt) := hc
  generalize hL : chF n (rdo E E) wt = L
  have HL : Hid (chF n (rdo E E) wt = L) := hL
  have HWT : Hid (wt = plen (rdo E E) * R) := hwt
  clear hL hwt hc
  go_enter Try.func93, Try.ntmps93
  go_wp2_with fail
  go_loopw [5, 12] (fun u i wr => ∃ (k : Nat) (xs : List Int) (wk : Nat), k ≤ E.length ∧ i = .int .i64 k ∧ xs.length ≤ k ∧ Hid (L = xs ++ chF n (rdo E (E.drop k)) wk) ∧ Hid (wk = plen (rdo E (E.drop k)) * R) ∧ wk ≤ 2001 ∧ wr.ownsRow w.heap.size 3 1 u xs.length (xs.map (Value.int .i64)) ∧ Chs wr B n wk ∧ Only B w wr) (fun _ i _ => E.length - (intOf i).toNat)
  case atStart => exact ⟨0, [], wt, Nat.zero_le _, rfl, Nat.le_refl _, HL.out.symm, HWT.out, hw2, World.ownsRow_nil _ _ _ _, HCH.out, Only.refl _ _⟩
  case round =>
    obtain ⟨k, xs, wk, hk, rfl, hxk, hn, hwk, hwk2, hown, hch, ho⟩ := hrel
    have hsz := ho.size
    have hbw : Below w0.heap.size w0 wr := hw.trans (ho.below hB hw.size)
    have hchlt := hch.lt
    by_cases hlt : k < E.length
    · obtain ⟨x, hx⟩ := get_of_lt hlt
      obtain rfl := ha (ne_nil hlt)
      obtain ⟨c0, c1, c2, c3⟩ := ev4C_keeps _ _ _ _ _ hbw (HC.out k x hx)
      have hbl := World.block_lt_of_cell? _ _ c0
      have HN : Hid (L = xs ++ chF n (rdo E (x :: E.drop (k + 1))) wk) := by rw [← drop_cons hx]; exact hn
      have HK : Hid (wk = plen (rdo E (x :: E.drop (k + 1))) * R) := by rw [← drop_cons hx]; exact hwk
      have HCK : Hid (Chs wr B n wk) := hch
      have HO : Hid (Only B w wr) := ho
      clear hn hwk hx ha hch ho
      cases h1 : x.kind == 0
      · have HN1 : Hid (L = xs ++ chF n (rdo E (E.drop (k + 1))) wk) := HN.out.trans (by rw [rdo_mis h1])
        have HK1 : Hid (wk = plen (rdo E (E.drop (k + 1))) * R) := HK.out.trans (by rw [rdo_mis h1])
        go_wp2_with fail
        go_roundw
        case measure => simp [intOf]; omega
        case rel => exact ⟨k + 1, xs, wk, by omega, by go_num, by omega, HN1.out, HK1.out, hwk2, hown.alloc _, HCK.out.below (below_alloc _ _), HO.out.trans (Only.of_below (below_alloc _ _))⟩
      · have hwl := wrs_len E 0 x.loc
        have HN1 : Hid (L = xs ++ chF n ((-1 :: wrs E 0 x.loc) :: rdo E (E.drop (k + 1))) wk) := HN.out.trans (by rw [rdo_hit h1])
        have HK1 : Hid (wk = (-1 :: wrs E 0 x.loc).length * (plen (rdo E (E.drop (k + 1))) * R)) := HK.out.trans (by rw [rdo_hit h1, plen, Nat.mul_assoc])
        generalize hO : -1 :: wrs E 0 x.loc = O at HN1 HK1
        have HOO : Hid (-1 :: wrs E 0 x.loc = O) := hO
        have hOl : 1 ≤ O.length ∧ O.length ≤ 97 := by rw [← hO]; simp; omega
        obtain ⟨hO1, hO2⟩ := hOl
        clear hO hwl HN HK
        have hP := plen_pos (rdo_pos E (E.drop (k + 1)))
        have hPR : 1 ≤ plen (rdo E (E.drop (k + 1))) * R := Nat.mul_le_mul hP hR
        have HQ : Hid (wk / O.length = plen (rdo E (E.drop (k + 1))) * R) := by unfold Hid; rw [HK1.out]; exact Nat.mul_div_cancel_left _ hO1
        have hmw : O.length ≤ wk := by rw [HK1.out]; exact Nat.le_mul_of_pos_right _ hPR
        have hat : n / (wk / O.length) % O.length < O.length := Nat.mod_lt _ hO1
        obtain ⟨y, hy⟩ := get_of_lt hat
        have HN2 : Hid (L = (xs ++ [y]) ++ chF n (rdo E (E.drop (k + 1))) (wk / O.length)) := HN1.out.trans (by rw [chF_cons, List.getD, hy]; simp)
        have hwk3 : wk / O.length ≤ 2001 := Nat.le_trans (Nat.div_le_self _ _) hwk2
        generalize hr : n / (wk / O.length) % O.length = r at hat hy
        have HR : Hid (n / (wk / O.length) % O.length = r) := hr
        have HY : Hid (O[r]? = some y) := hy
        clear hr hy hP hPR
        go_wp2_with fail
        refine (sources_any E hE x.loc _ _ (HH.out.keep (below_more hbw (below_alloc _ _)))).mono ?_
        rw [HOO.out]
        rintro e w3 ⟨u2, rfl, hu2, hb3⟩
        obtain ⟨ao4, b4, off4, cap4, ⟨hv4, ha4, _, hc4⟩, hb4⟩ := hu2
        subst hv4
        obtain rfl := ha4 (ne_nil (by omega : 0 < O.length))
        simp only [World.size_alloc] at hb4
        have hown3 := own_keep (hown.alloc _) hb3
        have hC3 := (HCK.out.below (below_alloc _ _)).below hb3
        have HO3 : Hid (Only B w w3) := HO.out.trans (Only.of_below (below_more (below_alloc _ _) hb3))
        have hap4 : ∀ g, u5.ownBlock = some g → g ≠ b4 := fun g hg => by have := (hown.lt g hg).2; omega
        have hs3 : wr.heap.size + 1 ≤ w3.heap.size := by have := hb3.size; simpa using this
        have HY4 : Hid (w3.cell? ⟨b4, off4 + r, none⟩ = some (.int .i64 y)) := by
          have := hc4 r y HY.out; unfold IntC at this; rwa [Nat.mul_one] at this
        clear hb3 hc4 ha4 hown c0 c1 c2 c3 HCK HO
        go_wp2_with fail
        refine (next_any B n wk O.length _ hC3 hO1 hmw hwk2 hn2).mono ?_
        rw [HR.out]
        rintro e w4 ⟨rfl, hC4, ho4⟩
        have hnB : ∀ g, u5.ownBlock = some g → g ≠ B := fun g hg => by have := (hown3.lt g hg).1; omega
        have hown4 : w4.ownsRow w.heap.size 3 1 u5 xs.length (xs.map (Value.int .i64)) := by
          refine ⟨hown3.1, ?_⟩
          rcases hown3.2 with h2 | ⟨g, cap, cur, hv, hg, hh, r⟩
          · exact Or.inl h2
          · exact Or.inr ⟨g, cap, cur, hv, hg, by rw [ho4.block g (Array.getElem?_eq_some_iff.1 hh).1 (hnB g (by rw [hv]; rfl))]; exact hh, r⟩
        have y4 := ho4.cell HY4.out (by omega)
        have hl4 := World.block_lt_of_cell? _ _ y4
        have hs4 := ho4.size
        have HO4 : Hid (Only B w w4) := HO3.out.trans ho4
        have HC4 : Hid (Chs w4 B n (wk / O.length)) := hC4
        have hrI : (r : Int) < (O.length : Int) := by omega
        clear hown3 hC3 HO3 ho4 hC4 HY4
        go_wp2_with (at_builtin; refine append_new _ rfl (.tmp 27) (.tmp 32) 39 rfl w.heap.size 3 i0 (.int .i64 0) 1 8 Try.underlying39 HI.out.1 HI.out.2.1 HI.out.2.2.1 HI.out.2.2.2 rfl (by decide) u5 xs.length (xs.map (Value.int .i64)) rfl (hown4.alloc _) (some ⟨w4.heap.size, 0, none⟩) 1 1 [.int .i64 y] rfl (fun h => by cases h) rfl (fun ad had => by cases had; exact new_one rfl) (by simp [Value.oneCell']) (by unfold maxLen; omega) (by omega) (by simp; omega) ?_)
        intro u' w5 hown' hgrow _
        have HO5 : Hid (Only B w w5) := Only.grown (n := w.heap.size) hgrow (fun kk e => (hown4.lt kk e).1) (HO4.out.trans (Only.of_below (below_alloc _ _))) (Nat.le_refl _)
        have HC5 : Hid (Chs w5 B n (wk / O.length)) := (HC4.out.below (below_alloc _ _)).keep (hgrow.block B (by have := HC4.out.lt; simp; omega) (fun e => hnB B e.symm rfl))
        have HW5 : Hid (w5.ownsRow w.heap.size 3 1 u' (xs ++ [y]).length ((xs ++ [y]).map (Value.int .i64))) := own_snoc hown'
        clear hgrow hown4 hown' HO4 HC4 y4
        go_wp2_with fail
        go_roundw
        case measure => simp [intOf]; omega
        case rel => exact ⟨k + 1, xs ++ [y], wk / O.length, by omega, by go_num, by simp; omega, HN2.out, HQ.out, hwk3, HW5.out, HC5.out, HO5.out⟩
    · have HF : Hid (L = xs) := hn.out.trans (by rw [drop_nil hlt]; simp [rdo, chF])
      have hRk : wk = R := hwk.out.trans (by rw [drop_nil hlt]; simp [rdo, plen])
      subst hRk
      have HCK : Hid (Chs wr B n wk) := hch
      have HO : Hid (Only B w wr) := ho
      clear hn hwk ha hch ho
      go_wp2_with fail
      go_ret
      exact ⟨_, rfl, by rw [HF.out]; exact owns_int hown, HCK.out, HO.out⟩

end Go.Proofs.Ytomijmikkbhgmab

namespace Go.Proofs.Ytomijmikkbhgmab
open Go.RowKit

theorem chO_cons (n m : Nat) (l : List Int) (wt : Nat) : chO n (m + 1) l wt = l.getD (n / (wt / l.length) % l.length) 0 :: chO n m (l.eraseIdx (n / (wt / l.length) % l.length)) (wt / l.length) := rfl

theorem own_only {B : Nat} {w w' : World} {base : Nat} {e : TypeId} {size : Nat} {v : Value} {n : Nat} {xs : List Value} (h : w.ownsRow base e size v n xs) (ho : Only B w w') (hB : ∀ g, v.ownBlock = some g → g ≠ B) : w'.ownsRow base e size v n xs := by
  refine ⟨h.1, ?_⟩
  rcases h.2 with h2 | ⟨g, cap, cur, hv, hg, hh, r⟩
  · exact Or.inl h2
  · exact Or.inr ⟨g, cap, cur, hv, hg, by rw [ho.block g (Array.getElem?_eq_some_iff.1 hh).1 (hB g (by rw [hv]; rfl))]; exact hh, r⟩

set_option maxHeartbeats 2000000 in
theorem chooseOrder_any (l : List Int) (hl : l.length ≤ 96) (v : Value) (w : World) (ao : Option Addr) (b off cap : Nat) (h : SlAt w 1 IntC v l ao b off cap) (B n wt R : Nat) (hbB : b ≠ B) (_hbw : l ≠ [] → b < w.heap.size) (hc : Chs w B n wt) (hwt : wt = fac l.length * R) (hR : 1 ≤ R) (hw2 : wt ≤ 2001) (hn2 : n ≤ 2001) :
    Calls Try.prog 94 #[.pointer (some ⟨B, 0, none⟩), v] w fun e w' => ∃ u, e = .returned u ∧ IntOwn w.heap.size w' u (chO n l.length l wt) ∧ Chs w' B n R ∧ Only B w w' := by
  have HH : Hid (SlAt w 1 IntC v l ao b off cap) := h
  have hv := h.hv
  clear h
  subst hv
  obtain ⟨i0, hi, hz0, hz1, hz2⟩ := info_parts Try.info3
  have HI : Hid (Try.prog.info? 3 = some i0 ∧ i0.zero = some (.int .i64 0) ∧ i0.size = 1 ∧ i0.bytes = 8) := ⟨hi, hz0, hz1, hz2⟩
  clear hi hz0 hz1 hz2
  have hBl := hc.lt
  have HCH : Hid (Chs w B n wt) := hc
  generalize hL : chO n l.length l wt = L
  have HL : Hid (chO n l.length l wt = L) := hL
  have HWT : Hid (wt = fac l.length * R) := hwt
  clear hL hwt hc
  go_enter Try.func94, Try.ntmps94
  go_wp2_with fail
  go_loopg [5, 6] l.length (fun gk u vl wr => ∃ (xs lf : List Int) (wk : Nat) (ao : Option Addr) (b off cap : Nat), lf.length = gk ∧ vl = .slice ao lf.length cap ∧ xs.length + lf.length ≤ 96 ∧ Hid (L = xs ++ chO n lf.length lf wk) ∧ Hid (wk = fac lf.length * R) ∧ wk ≤ 2001 ∧ wr.ownsRow w.heap.size 3 1 u xs.length (xs.map (Value.int .i64)) ∧ SlAt wr 1 IntC vl lf ao b off cap ∧ b ≠ B ∧ (lf ≠ [] → ∀ g, u.ownBlock = some g → g ≠ b) ∧ Chs wr B n wk ∧ Only B w wr)
  case atStart =>
    exact ⟨[], l, wt, ao, b, off, cap, rfl, rfl, by simpa using hl, HL.out.symm, HWT.out, hw2, World.ownsRow_nil _ _ _ _, HH.out, hbB, fun _ g hg => by simp [Value.ownBlock] at hg, HCH.out, Only.refl _ _⟩
  case round =>
    obtain ⟨xs, lf, wk, aoL, bL, offL, capL, hgk, rfl, hxl, hn, hwk, hwk2, hown, hsl, hbL, hap, hch, ho⟩ := hrel
    clear HH
    have HG : Hid (lf.length = gk) := hgk
    clear hgk
    have hsz := ho.size
    have HCK : Hid (Chs wr B n wk) := hch
    have HO : Hid (Only B w wr) := ho
    have HSL : Hid (SlAt wr 1 IntC (.slice aoL lf.length capL) lf aoL bL offL capL) := hsl
    have ha := hsl.ha
    clear hch ho hsl
    by_cases hlt : 0 < lf.length
    · obtain rfl := ha (ne_nil hlt)
      obtain ⟨m, hm⟩ : ∃ m, lf.length = m + 1 := ⟨lf.length - 1, by omega⟩
      have HM : Hid (lf.length = m + 1) := hm
      have HQ : Hid (wk / lf.length = fac m * R) := by unfold Hid; rw [hwk.out, hm, fac, Nat.mul_assoc]; exact Nat.mul_div_cancel_left _ (by omega)
      have hmw : lf.length ≤ wk := by rw [hwk.out, hm, fac, Nat.mul_assoc]; exact Nat.le_mul_of_pos_right _ (Nat.mul_le_mul (fac_pos m) hR)
      have hat : n / (wk / lf.length) % lf.length < lf.length := Nat.mod_lt _ hlt
      obtain ⟨y, hy⟩ := get_of_lt hat
      have HN2 : Hid (L = (xs ++ [y]) ++ chO n m (lf.eraseIdx (n / (wk / lf.length) % lf.length)) (wk / lf.length)) := hn.out.trans (by
        have e : chO n lf.length lf wk = chO n (m + 1) lf wk := by rw [hm]
        rw [e, chO_cons, List.getD, hy]; simp)
      have hwk3 : wk / lf.length ≤ 2001 := Nat.le_trans (Nat.div_le_self _ _) hwk2
      generalize hr : n / (wk / lf.length) % lf.length = r at hat hy HN2
      have HR : Hid (n / (wk / lf.length) % lf.length = r) := hr
      have HY : Hid (lf[r]? = some y) := hy
      have hap' := hap (ne_nil hlt)
      have HA : Hid ((lf.eraseIdx r).length = m) := by unfold Hid; rw [List.length_eraseIdx, if_pos hat]; omega
      clear hr hy hn hm ha hap
      go_wp2_with fail
      refine (next_any B n wk lf.length _ HCK.out hlt hmw hwk2 hn2).mono ?_
      rw [HR.out]
      rintro e w4 ⟨rfl, hC4, ho4⟩
      have hnB : ∀ g, u5.ownBlock = some g → g ≠ B := fun g hg => by have := (hown.lt g hg).1; omega
      have hown4 := own_only hown ho4 hnB
      have HSL4 : Hid (SlAt w4 1 IntC (.slice (some ⟨bL, offL, none⟩) lf.length capL) lf (some ⟨bL, offL, none⟩) bL offL capL) := IntAt.only HSL.out ho4 hbL
      have y4 : w4.cell? ⟨bL, offL + r, none⟩ = some (.int .i64 y) := by
        have := HSL4.out.hc r y HY.out; unfold IntC at this; rwa [Nat.mul_one] at this
      have hl4 := World.block_lt_of_cell? _ _ y4
      have hs4 := ho4.size
      have HO4 : Hid (Only B w w4) := HO.out.trans ho4
      have HC4 : Hid (Chs w4 B n (wk / lf.length)) := hC4
      have hrI : (r : Int) < (lf.length : Int) := by omega
      clear hown HO ho4 hC4 HSL HCK
      go_wp2_with (at_builtin; refine append_new _ rfl (.tmp 16) (.tmp 21) 39 rfl w.heap.size 3 i0 (.int .i64 0) 1 8 Try.underlying39 HI.out.1 HI.out.2.1 HI.out.2.2.1 HI.out.2.2.2 rfl (by decide) u5 xs.length (xs.map (Value.int .i64)) rfl (hown4.alloc _) (some ⟨w4.heap.size, 0, none⟩) 1 1 [.int .i64 y] rfl (fun h => by cases h) rfl (fun ad had => by cases had; exact new_one rfl) (by simp [Value.oneCell']) (by unfold maxLen; omega) (by omega) (by simp; omega) ?_)
      intro u' w5 hown' hgrow hap5
      have HO5 : Hid (Only B w w5) := Only.grown (n := w.heap.size) hgrow (fun kk e => (hown4.lt kk e).1) (HO4.out.trans (Only.of_below (below_alloc _ _))) (Nat.le_refl _)
      have HC5 : Hid (Chs w5 B n (wk / lf.length)) := (HC4.out.below (below_alloc _ _)).keep (hgrow.block B (by have := HC4.out.lt; simp; omega) (fun e => hnB B e.symm rfl))
      have HW5 : Hid (w5.ownsRow w.heap.size 3 1 u' (xs ++ [y]).length ((xs ++ [y]).map (Value.int .i64))) := own_snoc hown'
      have HSL5 : Hid (IntAt w5 (.slice (some ⟨bL, offL, none⟩) lf.length capL) lf) :=
        ⟨_, bL, offL, capL, rfl, fun _ => rfl, fun h => by simp at h, fun j x hx => hgrow.cell (keep_cell (below_alloc _ _) (HSL4.out.hc j x hx)) (fun e => hap' bL e.symm rfl)⟩
      have hs5 : w4.heap.size + 1 ≤ w5.heap.size := by have := hgrow.size; simpa using this
      clear hgrow hown4 hown' HO4 HC4 y4 HSL4 hap5
      go_wp2_with fail
      refine (without_any lf (by omega) r _ _ HSL5.out).mono ?_
      rintro e w6 ⟨u6, rfl, hu6, hb6⟩
      obtain ⟨ao6, b6, off6, cap6, hsl6, hb66⟩ := hu6
      have hv6 := hsl6.hv
      subst hv6
      have HS6 : Hid (SlAt w6 1 IntC (.slice ao6 (lf.eraseIdx r).length cap6) (lf.eraseIdx r) ao6 b6 off6 cap6) := hsl6
      have HO6 : Hid (Only B w w6) := HO5.out.trans (Only.of_below hb6)
      have HC6 : Hid (Chs w6 B n (wk / lf.length)) := HC5.out.below hb6
      have HW6 : Hid (w6.ownsRow w.heap.size 3 1 u' (xs ++ [y]).length ((xs ++ [y]).map (Value.int .i64))) := own_keep HW5.out hb6
      have HAP : Hid (∀ g, u'.ownBlock = some g → g ≠ b6) := fun g hg => by have := (HW5.out.lt g hg).2; omega
      have HB6 : Hid (b6 ≠ B) := by unfold Hid; omega
      clear hsl6 hb6 hb66 HO5 HC5 HW5 HSL5
      go_wp2_with fail
      go_roundg m
      case measure => have := HM.out; have := HG.out; omega
      case rel =>
        have e := HA.out
        refine ⟨xs ++ [y], lf.eraseIdx r, wk / lf.length, ao6, b6, off6, cap6, e, rfl, by simp only [List.length_append, List.length_cons, List.length_nil]; rw [e]; have := HM.out; omega, ?_, ?_, hwk3, HW6.out, HS6.out, HB6.out, fun _ => HAP.out, HC6.out, HO6.out⟩
        · unfold Hid; rw [e]; exact HN2.out
        · unfold Hid; rw [e]; exact HQ.out
    · have h0 : lf = [] := List.eq_nil_of_length_eq_zero (by omega)
      subst h0
      have HF : Hid (L = xs) := hn.out.trans (by simp [chO])
      have hRk : wk = R := hwk.out.trans (by simp [fac])
      subst hRk
      clear hn hwk ha hap
      go_wp2_with fail
      go_ret
      exact ⟨_, rfl, by rw [HF.out]; exact owns_own hown, HCK.out, HO.out⟩

end Go.Proofs.Ytomijmikkbhgmab

namespace Go.Proofs.Ytomijmikkbhgmab
open Go.RowKit


/-- Of a candidate the order of the writes of location j. -/
def ordJ (E : List Evt) (n j : Nat) : List Int := chO n (wrs E 0 (j : Int)).length (wrs E 0 (j : Int)) (facL E j)
theorem exN_order (E : List Evt) (n : Nat) : (exN E n).order = (List.range 3).map (ordJ E n) := rfl

theorem Only.setCellN (B o : Nat) (u : Value) (w : World) : Only B w (w.setCell ⟨B, o, none⟩ u) :=
  ⟨rfl, rfl, rfl, by simp [World.setCell], fun k _ hn => Below.heap_setCell w ⟨B, o, none⟩ u k hn⟩

/-- What Nth answers: no such candidate. -/
def noExe : Value := .tuple #[.agg #[.slice none 0 0, .slice none 0 0], .int .i64 6]

theorem own2s {w w3 : World} {a b : Value} {t : TypeId} (hb : Below (w.heap.size + 1) (w.alloc (.cells #[a, b] t)) w3) :
    w3.cell? ⟨w.heap.size, 0, none⟩ = some a ∧ w3.cell? ⟨w.heap.size, 1, none⟩ = some b ∧ w3.frozen? ⟨w.heap.size, 0, none⟩ = false ∧ w3.frozen? ⟨w.heap.size, 1, none⟩ = false ∧ w.heap.size < w3.heap.size := by
  have h1 := hb.cell (p := ⟨w.heap.size, 0, none⟩) (by simp)
  have h2 := hb.cell (p := ⟨w.heap.size, 1, none⟩) (by simp)
  have h3 := hb.frozen (p := ⟨w.heap.size, 0, none⟩) (by simp)
  have h4 := hb.frozen (p := ⟨w.heap.size, 1, none⟩) (by simp)
  have h5 := hb.size
  simp at h1 h2 h3 h4 h5
  exact ⟨h1, h2, h3, h4, by omega⟩

set_option maxHeartbeats 2000000 in
theorem nth_no (E : List Evt) (hE : E.length ≤ 96) (v : Value) (n : Int) (w : World) (h : Ev4At w v E) (hn : n < 0 ∨ (sizeN E : Int) ≤ n) (hs : sizeN E ≤ 2000) :
    Calls Try.prog 76 #[v, .int .i64 n] w fun e w' => e = .returned noExe ∧ Below w.heap.size w w' := by
  have HH : Hid (Ev4At w v E) := h
  have hS : cap2 (sizeN E) = sizeN E := cap2_of_le (by omega)
  generalize hSS : sizeN E = S at hn hs hS
  have HS : Hid (cap2 (sizeN E) = S) := by rw [hSS]; exact hS
  clear hS hSS h
  rcases hn with hn | hn
  all_goals
    go_enter Try.func76, Try.ntmps76
    go_wp2_with fail
    refine (countP_any E hE v _ (HH.out.keep (below_alloc _ _))).mono ?_
    rw [HS.out]
    rintro e w3 ⟨rfl, hb3⟩
    rw [World.size_alloc] at hb3
    obtain ⟨d0, d1, f0, f1, s3⟩ := own2s hb3
    have hb4 : Below w.heap.size w w3 := (below_alloc _ _).trans (hb3.mono (by omega))
    clear hb3
    go_wp2_with fail
    exact bodyPost_ret (v := .tuple #[.agg #[.slice none 0 0, .slice none 0 0], .int .i64 6]) (by simp [results, Try.results76, go_sem, *]) rfl
      ⟨rfl, (hb4.setCell (Nat.le_refl _) _).setCell (Nat.le_refl _) _⟩

/-- An execution that is new: from block B on. -/
structure ExeN (B : Nat) (w : World) (vf vo : Value) (x : Exe) : Prop where
  f : ∃ ao b off cap, SlAt w 1 IntC vf x.from' ao b off cap ∧ B ≤ b
  o : LstNew B w vo x.order
theorem ExeN.at' {B : Nat} {w : World} {vf vo : Value} {x : Exe} (h : ExeN B w vf vo x) : ExeAt w vf vo x := by
  obtain ⟨ao, b, off, cap, hs, _⟩ := h.f
  exact ⟨⟨ao, b, off, cap, hs⟩, h.o.at'⟩
theorem ExeN.other {B : Nat} {w w' : World} {vf vo : Value} {x : Exe} (h : ExeN B w vf vo x) (hs : ∀ b, B ≤ b → b < w.heap.size → w'.heap[b]? = w.heap[b]?) : ExeAt w' vf vo x := by
  obtain ⟨ao, b, off, cap, ⟨hv, ha, hn, hc⟩, hB⟩ := h.f
  obtain ⟨ao2, b2, off2, cap2, hv2, ha2, hn2, hB2, hc2⟩ := h.o
  refine ⟨⟨ao, b, off, cap, hv, ha, hn, fun k y hy => ?_⟩, ao2, b2, off2, cap2, hv2, ha2, hn2, fun k y hy => ?_⟩
  · have hcc := hc k y hy
    exact cell_heap (hs b hB (World.block_lt_of_cell? _ _ hcc)) hcc
  · obtain ⟨u, h1, h2, h3⟩ := hc2 k y hy
    rw [Nat.mul_one]
    exact ⟨u, cell_heap (hs b2 hB2 (World.block_lt_of_cell? _ _ h1)) h1, (h2.other (fun g hg => hs g (h3 g hg).1 (h3 g hg).2)).at'⟩
theorem LstNew.less {B B' : Nat} {w : World} {v : Value} {L : List (List Int)} (h : LstNew B w v L) (hb : B' ≤ B) : LstNew B' w v L := by
  obtain ⟨ao, b, off, cap, hv, ha, hn, hB, hc⟩ := h
  refine ⟨ao, b, off, cap, hv, ha, hn, Nat.le_trans hb hB, fun k x hx => ?_⟩
  obtain ⟨u, h1, h2, h3⟩ := hc k x hx
  exact ⟨u, h1, h2, fun g hg => ⟨Nat.le_trans hb (h3 g hg).1, (h3 g hg).2⟩⟩

set_option maxHeartbeats 4000000 in
theorem nth_new (E : List Evt) (hE : E.length ≤ 96) (v : Value) (n : Nat) (w : World) (h : Ev4At w v E) (hn : n < sizeN E) (hs : sizeN E ≤ 2000) :
    Calls Try.prog 76 #[v, .int .i64 n] w fun e w' => ∃ vf vo, e = .returned (.tuple #[.agg #[vf, vo], .int .i64 0]) ∧ ExeN w.heap.size w' vf vo (exN E n) ∧ Below w.heap.size w w' := by
  have HH : Hid (Ev4At w v E) := h
  have hS : cap2 (sizeN E) = sizeN E := cap2_of_le (by omega)
  have hP : sizeN E = plen (rdo E E) * facL E 0 := by rw [plen_rdo]; rfl
  have HX : Hid ((exN E n).from' = chF n (rdo E E) (sizeN E)) := rfl
  generalize hSS : sizeN E = S at hn hs hS hP HX
  have HS : Hid (cap2 (sizeN E) = S) := by rw [hSS]; exact hS
  have HP : Hid (S = plen (rdo E E) * facL E 0) := hP
  clear hS hSS h hP
  obtain ⟨i0, hi, hz0, hz1, hz2⟩ := info_parts Try.infoInts
  have HI : Hid (Try.prog.info? 39 = some i0 ∧ i0.zero = some (.slice none 0 0) ∧ i0.size = 1 ∧ i0.bytes = 24) := ⟨hi, hz0, hz1, hz2⟩
  clear hi hz0 hz1 hz2
  go_enter Try.func76, Try.ntmps76
  go_wp2_with fail
  refine (countP_any E hE v _ (HH.out.keep (below_alloc _ _))).mono ?_
  rw [HS.out]
  rintro e w3 ⟨rfl, hb3⟩
  rw [World.size_alloc] at hb3
  obtain ⟨d0, d1, f0, f1, s3⟩ := own2s hb3
  have hb4 : Below w.heap.size w w3 := (below_alloc _ _).trans (hb3.mono (by omega))
  clear hb3
  go_wp2_with fail
  have hC0 : Chs (w3.alloc (.cells #[.int .i64 n, .int .i64 S] 123)) w3.heap.size n S := ⟨by simp, by simp, by simp, by simp⟩
  refine (chooseFrom_any E hE v w _ HH.out (hb4.alloc hb4.size _) w3.heap.size n S (facL E 0) hb4.size hC0 HP.out (facL_pos E 0) (by omega) (by omega)).mono ?_
  rintro e w5 ⟨uf, rfl, huf, hC5, hO5⟩
  obtain ⟨aof, bf, off, capf, hslf, hbf⟩ := huf
  rw [World.size_alloc] at hbf
  have hO3 : Only w3.heap.size w3 w5 := (Only.of_below (below_alloc _ _)).trans hO5
  replace d0 := hO3.cell d0 (by omega)
  replace d1 := hO3.cell d1 (by omega)
  have hfz : ∀ o, w5.frozen? ⟨w.heap.size, o, none⟩ = w3.frozen? ⟨w.heap.size, o, none⟩ := fun o => World.frozen?_of_block (w := w3) (hO3.block w.heap.size (by omega) (by omega))
  replace f0 := (hfz 0).trans f0
  replace f1 := (hfz 1).trans f1
  have hb5 : Below w.heap.size w w5 := hb4.trans (hO3.below hb4.size hb4.size)
  have hs5 : w3.heap.size + 1 ≤ w5.heap.size := by have := hO5.size; simpa using this
  generalize w3.heap.size = B at hC5 hO5 hO3 hbf hs5 s3 ⊢
  have HF : Hid (SlAt w5 1 IntC uf (chF n (rdo E E) S) aof bf off capf) := hslf
  have HC5 : Hid (Chs w5 B n (facL E 0)) := hC5
  clear hslf hC5 hO5 hO3 hC0 hfz
  go_wp2_with fail
  go_loopw [9, 10] (fun u i wr => ∃ (j : Nat) (aoV : Option Addr) (capV : Nat) (vs : List Value), j ≤ 3 ∧ i = .int .i64 j ∧ u = .slice aoV j capV ∧ LL wr w5.heap.size (.slice aoV j capV) ((List.range j).map (ordJ E n)) vs ∧ Chs wr B n (facL E j) ∧ Only B w5 wr) (fun _ i _ => 3 - (intOf i).toNat)
  case atStart => exact ⟨0, none, 0, [], by omega, rfl, rfl, LL.nil _ _, HC5.out, Only.refl _ _⟩
  case round =>
    obtain ⟨j, aoV, capV, vs, hj, rfl, rfl, hLL, hch, ho⟩ := hrel
    have HLL : Hid (LL wr w5.heap.size (.slice aoV j capV) ((List.range j).map (ordJ E n)) vs) := hLL
    have HCH : Hid (Chs wr B n (facL E j)) := hch
    have HO : Hid (Only B w5 wr) := ho
    have hsz := ho.size
    have hBl := hch.lt
    clear hLL hch ho HC5
    by_cases hlt : j < 3
    · have hbr : Below w.heap.size w wr := hb5.trans (HO.out.below (by omega) hb5.size)
      have hwl := wrs_len E 0 (j : Int)
      have HST : Hid (facL E j = fac (wrs E 0 (j : Int)).length * facL E (j + 1)) := facL_step E j hlt
      have HOJ : Hid (ordJ E n j = chO n (wrs E 0 (j : Int)).length (wrs E 0 (j : Int)) (facL E j)) := rfl
      have hle : facL E j ≤ 2001 := by
        have h1 : facL E j ≤ facL E 0 := by
          have a := fac_pos (wrs E 0 0).length
          have b := fac_pos (wrs E 0 1).length
          have e0 : facL E 0 = fac (wrs E 0 0).length * facL E 1 := rfl
          have e1 : facL E 1 = fac (wrs E 0 1).length * facL E 2 := rfl
          have h01 : facL E 1 ≤ facL E 0 := by rw [e0]; exact Nat.le_mul_of_pos_left _ a
          have h12 : facL E 2 ≤ facL E 1 := by rw [e1]; exact Nat.le_mul_of_pos_left _ b
          match j, hlt with
          | 0, _ => exact Nat.le_refl _
          | 1, _ => exact h01
          | 2, _ => exact Nat.le_trans h12 h01
        have h2 : facL E 0 ≤ S := by rw [HP.out]; exact Nat.le_mul_of_pos_left _ (plen_pos (rdo_pos E E))
        omega
      generalize hW : wrs E 0 (j : Int) = W at hwl HST HOJ
      have HW : Hid (wrs E 0 (j : Int) = W) := hW
      clear hW
      go_wp2_with fail
      refine (writesP_any E hE j v _ (HH.out.keep hbr)).mono ?_
      rw [HW.out]
      rintro e w6 ⟨u2, rfl, hu2, hb6⟩
      obtain ⟨ao2, b2, off2, cap2', hsl2, hb2⟩ := hu2
      have HLL6 : Hid (LL w6 w5.heap.size (.slice aoV j capV) ((List.range j).map (ordJ E n)) vs) := HLL.out.keep hb6
      have HCH6 : Hid (Chs w6 B n (facL E j)) := HCH.out.below hb6
      have HO6 : Hid (Only B w5 w6) := HO.out.trans (Only.of_below hb6)
      have hs6 := hb6.size
      have HSL : Hid (SlAt w6 1 IntC u2 W ao2 b2 off2 cap2') := hsl2
      clear hsl2 hb6 HLL HCH HO
      go_wp2_with fail
      refine (chooseOrder_any W (by omega) u2 _ ao2 b2 off2 cap2' HSL.out B n (facL E j) (facL E (j + 1)) (by omega) (fun hne => by
        obtain ⟨x, hx⟩ := get_of_lt (l := W) (k := 0) (by cases W with | nil => exact absurd rfl hne | cons a l => simp)
        exact World.block_lt_of_cell? _ _ (HSL.out.hc 0 x hx)) HCH6.out HST.out (facL_pos E (j + 1)) hle (by omega)).mono ?_
      rw [← HOJ.out]
      rintro e w7 ⟨u3, rfl, hu3, hC7, ho7⟩
      obtain ⟨ao3, cap3, hf3⟩ := hu3.1.at'.form
      have HLL7 : Hid (LL w7 w5.heap.size (.slice aoV j capV) ((List.range j).map (ordJ E n)) vs) := HLL6.out.only ho7 (by omega)
      have HCH7 : Hid (Chs w7 B n (facL E (j + 1))) := hC7
      have HO7 : Hid (Only B w5 w7) := HO6.out.trans ho7
      have hs7 := ho7.size
      subst hf3
      have HU3 : Hid (IntCap w7 (.slice ao3 (ordJ E n j).length cap3) (ordJ E n j) ∧ ∀ b, (Value.slice ao3 (ordJ E n j).length cap3).ownBlock = some b → w5.heap.size ≤ b ∧ b < w7.heap.size ∧ (Value.slice aoV j capV).ownBlock ≠ some b) :=
        ⟨hu3.1.cap, fun b hb => ⟨by have := (hu3.2 b hb).1; omega, (hu3.2 b hb).2, fun e => by have := (HLL6.out.own.lt b e).2; have := (hu3.2 b hb).1; omega⟩⟩
      have HOW : Hid (w7.ownsRow w5.heap.size 39 1 (.slice aoV j capV) j vs) := by have := HLL7.out.own; unfold Hid; simpa using this
      clear hu3 hC7 ho7 HLL6 HCH6 HO6 HSL
      go_wp2_with (at_builtin; refine append_new _ rfl (.tmp 41) (.tmp 43) 62 rfl w5.heap.size 39 i0 (.slice none 0 0) 1 24 Try.underlying62 HI.out.1 HI.out.2.1 HI.out.2.2.1 HI.out.2.2.2 rfl (by decide) (.slice aoV j capV) j vs rfl (HOW.out.alloc _) (some ⟨w7.heap.size, 0, none⟩) 1 1 [.slice ao3 (ordJ E n j).length cap3] rfl (fun h => by cases h) rfl (fun ad had => by cases had; exact new_one rfl) (by simp [Value.oneCell']) (by unfold maxLen; omega) (by omega) (by simp; omega) ?_)
      intro V8 w8 hown8 hgrow8 hap8
      obtain ⟨ao8, cap8, hf8, _⟩ := own_form hown8
      have hap9 : ∀ g, V8.ownBlock = some g → (Value.slice aoV j capV).ownBlock = some g ∨ w7.heap.size + 1 ≤ g := by simpa using hap8
      have HLL8 : Hid (LL w8 w5.heap.size V8 ((List.range (j + 1)).map (ordJ E n)) (vs ++ [.slice ao3 (ordJ E n j).length cap3])) := by
        unfold Hid
        rw [List.range_succ, List.map_append]
        exact HLL7.out.snoc HU3.out.1 HU3.out.2 (by simpa using hown8) hgrow8 hap9
      have HO8 : Hid (Only B w5 w8) := Only.grown (n := w5.heap.size) hgrow8 (fun kk e => (HOW.out.lt kk e).1) (HO7.out.trans (Only.of_below (below_alloc _ _))) (Nat.le_refl _)
      have HC8 : Hid (Chs w8 B n (facL E (j + 1))) := (HCH7.out.below (below_alloc _ _)).keep (hgrow8.block B (by have := HCH7.out.lt; simp; omega) (fun e => by have := (HOW.out.lt B e.symm).1; omega))
      subst hf8
      clear hown8 hgrow8 hap8 hap9 HLL7 HU3 HOW HO7 HCH7
      go_wp2_with fail
      go_roundw
      case measure => simp [intOf]; omega
      case rel => exact ⟨j + 1, ao8, cap8, _, by omega, by go_num, rfl, HLL8.out, HC8.out, HO8.out⟩
    · have h3 : j = 3 := by omega
      subst h3
      replace d0 := HO.out.cell d0 (by omega)
      replace d1 := HO.out.cell d1 (by omega)
      have hfz : ∀ o, wr.frozen? ⟨w.heap.size, o, none⟩ = w5.frozen? ⟨w.heap.size, o, none⟩ := fun o => World.frozen?_of_block (w := w5) (HO.out.block w.heap.size (by have := hb5.size; omega) (by omega))
      replace f0 := (hfz 0).trans f0
      replace f1 := (hfz 1).trans f1
      have hv := HF.out.hv
      subst hv
      have hbr : Below w.heap.size w wr := hb5.trans (HO.out.below (by omega) hb5.size)
      have HFR : Hid (SlAt wr 1 IntC (.slice aof (chF n (rdo E E) S).length capf) (chF n (rdo E E) S) aof bf off capf) := IntAt.only HF.out HO.out (by omega)
      clear hfz HF HO HCH
      go_wp2_with fail
      have hset : Only w.heap.size wr ((wr.setCell ⟨w.heap.size, 0, none⟩ (.slice aof (chF n (rdo E E) S).length capf)).setCell ⟨w.heap.size, 1, none⟩ (.slice aoV 3 capV)) := (Only.setCellN _ _ _ _).trans (Only.setCellN _ _ _ _)
      refine bodyPost_ret (v := .tuple #[.agg #[.slice aof (chF n (rdo E E) S).length capf, .slice aoV 3 capV], .int .i64 0]) (by simp [results, Try.results76, go_sem, *]) rfl
        ⟨_, _, rfl, ⟨?_, ?_⟩, (hbr.setCell (Nat.le_refl _) _).setCell (Nat.le_refl _) _⟩
      · rw [HX.out]
        exact ⟨aof, bf, off, capf, IntAt.only HFR.out hset (by omega), by omega⟩
      · rw [exN_order]
        exact (HLL.out.only hset (by have := hb5.size; omega)).read.less hb5.size

theorem nth_yes (E : List Evt) (hE : E.length ≤ 96) (v : Value) (n : Nat) (w : World) (h : Ev4At w v E) (hn : n < sizeN E) (hs : sizeN E ≤ 2000) :
    Calls Try.prog 76 #[v, .int .i64 n] w fun e w' => ∃ vf vo, e = .returned (.tuple #[.agg #[vf, vo], .int .i64 0]) ∧ ExeAt w' vf vo (exN E n) ∧ Below w.heap.size w w' :=
  (nth_new E hE v n w h hn hs).mono fun _ _ ⟨vf, vo, he, hx, hb⟩ => ⟨vf, vo, he, hx.at', hb⟩

end Go.Proofs.Ytomijmikkbhgmab

namespace Go.Proofs.Ytomijmikkbhgmab
open Go.RowKit

def cErr (T : List (List Ins)) (c : List Atm) (n : Int) : Int := if (chk T c).1 == 0 then (if 0 ≤ n ∧ n < (sizeN (evsT T 0) : Int) then 0 else 6) else (chk T c).1
def cExe (T : List (List Ins)) (c : List Atm) (n : Int) : Exe := if (chk T c).1 == 0 then (if 0 ≤ n ∧ n < (sizeN (evsT T 0) : Int) then exN (evsT T 0) n.toNat else ⟨[], []⟩) else ⟨[], []⟩

theorem chk_many_no {T : List (List Ins)} {c : List Atm} (h : ((chk T c).1 == 0) = true) : sizeN (evsT T 0) ≤ 2000 := by
  have hs := chk_zero h
  cases hi : insF T 0 with
  | some p => rw [chk_ins hs hi] at h; simp at h
  | none =>
    cases hn : nstF T 0 with
    | some p => rw [chk_nst hs hi hn] at h; simp at h
    | none =>
      cases ha : atmF c 0 T.length with
      | some p => rw [chk_atm hs hi hn ha] at h; simp at h
      | none =>
        cases hm : manyB T
        · unfold manyB at hm
          simp only [Bool.or_eq_false_iff, decide_eq_false_iff_not] at hm
          have := hm.2
          unfold cap2 at this
          split at this <;> omega
        · rw [chk_many hs hi hn ha hm] at h; simp at h

theorem exe_nil (w : World) : ExeAt w (.slice none 0 0) (.slice none 0 0) ⟨[], []⟩ :=
  ⟨(intAt_nil w 0).at', none, 0, 0, 0, rfl, fun h => absurd rfl h, fun _ => ⟨rfl, rfl⟩, fun k x h => by simp at h⟩

/-- Two cells that hold no numbers, and no third one: an execution doesn't lie there. -/
theorem exe_store {w w' : World} {vf vo : Value} {x : Exe} {R : Nat} (h : ExeAt w vf vo x) (h3 : x.order.length = 3) (hR : ∀ o z, w.cell? ⟨R, o, none⟩ = some z → z = .slice none 0 0 ∧ o < 2) (hk : ∀ b : Nat, b ≠ R → w'.heap[b]? = w.heap[b]?) : ExeAt w' vf vo x := by
  have hI : ∀ (u : Value) (l : List Int), IntAt w u l → IntAt w' u l := by
    intro u l hu
    obtain ⟨ao, b, off, cap, hv, ha, hn, hc⟩ := hu
    refine ⟨ao, b, off, cap, hv, ha, hn, fun k y hy => ?_⟩
    have hc1 := hc k y hy
    unfold IntC at hc1
    have hb : b ≠ R := fun e => by subst e; have := (hR _ _ hc1).1; cases this
    exact cell_heap (hk b hb) hc1
  refine ⟨hI _ _ h.f, ?_⟩
  obtain ⟨ao, b, off, cap, hv, ha, hn, hc⟩ := h.o
  refine ⟨ao, b, off, cap, hv, ha, hn, fun k y hy => ?_⟩
  have hb : b ≠ R := by
    obtain ⟨z, hz⟩ := get_of_lt (l := x.order) (k := 2) (by omega)
    obtain ⟨u, h1, _⟩ := hc 2 z hz
    intro e
    subst e
    have := (hR _ _ h1).2
    omega
  obtain ⟨u, h1, h2⟩ := hc k y hy
  exact ⟨u, cell_heap (hk b hb) h1, hI _ _ h2⟩

theorem nil_cells {w w3 : World} {x : Obj} {t : TypeId} (hb : Below (w.heap.size + 2) ((w.alloc x).alloc (.cells #[.slice none 0 0, .slice none 0 0] t)) w3) : ∀ o z, w3.cell? ⟨w.heap.size + 1, o, none⟩ = some z → z = .slice none 0 0 ∧ o < 2 := by
  intro o z hz
  rw [hb.cell (p := ⟨w.heap.size + 1, o, none⟩) (by simp)] at hz
  have e : w.heap.size + 1 = (w.alloc x).heap.size := by simp
  rw [e, cell_of_row _ _ o _ t (0, 0) (heap_alloc_new _ _)] at hz
  match o, hz with
  | 0, hz => simp at hz; exact ⟨hz.symm, by omega⟩
  | 1, hz => simp at hz; exact ⟨hz.symm, by omega⟩
  | o + 2, hz => simp at hz

end Go.Proofs.Ytomijmikkbhgmab

namespace Go.Proofs.Ytomijmikkbhgmab
open Go.RowKit

theorem OptV.other {w w' : World} {v : Value} {o : Option (List Int)} (h : OptV w v o) (hs : ∀ b : Nat, v.ownBlock = some b → w'.heap[b]? = w.heap[b]?) : OptV w' v o := by
  cases o with
  | none => exact h
  | some l => exact ⟨h.1.other hs, h.2⟩
theorem OptV.keep {w w' : World} {v : Value} {o : Option (List Int)} (h : OptV w v o) (hb : Below w.heap.size w w') : OptV w' v o := by
  cases o with
  | none => exact h
  | some l => exact ⟨h.1.keep hb, h.2⟩
theorem optC_keeps : Keeps OptC := fun _ _ _ _ _ hb ⟨u, h1, h2⟩ => ⟨u, keep_cell hb h1, h2.keep hb⟩
theorem OptAt.keep {w w' : World} {v : Value} {L : List (Option (List Int))} (h : OptAt w v L) (hb : Below w.heap.size w w') : OptAt w' v L := by
  obtain ⟨ao, b, off, cap, h⟩ := h
  exact ⟨ao, b, off, cap, h.keep optC_keeps hb⟩

/-- A row of states, or nil, of the call's own. -/
structure OL (w : World) (base : Nat) (V : Value) (L : List (Option (List Int))) (vs : List Value) : Prop where
  len : vs.length = L.length
  own : w.ownsRow base 39 1 V L.length vs
  rows : ∀ (j : Nat) (x : Option (List Int)), L[j]? = some x → ∃ u, vs[j]? = some u ∧ OptV w u x ∧ ∀ b, u.ownBlock = some b → base ≤ b ∧ b < w.heap.size ∧ V.ownBlock ≠ some b

theorem OL.nil (w : World) (base : Nat) : OL w base (.slice none 0 0) [] [] := ⟨rfl, World.ownsRow_nil _ _ _ _, fun j x h => by simp at h⟩

theorem OL.other {w w' : World} {base : Nat} {V : Value} {L : List (Option (List Int))} {vs : List Value} (h : OL w base V L vs) (hsz : w.heap.size ≤ w'.heap.size) (hs : ∀ b : Nat, base ≤ b → b < w.heap.size → w'.heap[b]? = w.heap[b]?) : OL w' base V L vs := by
  refine ⟨h.len, own_other h.own (fun b hb => hs b (h.own.lt b hb).1 (h.own.lt b hb).2), fun j x hx => ?_⟩
  obtain ⟨u, h1, h2, h3⟩ := h.rows j x hx
  exact ⟨u, h1, h2.other (fun b hb => hs b (h3 b hb).1 (h3 b hb).2.1), fun b hb => ⟨(h3 b hb).1, Nat.lt_of_lt_of_le (h3 b hb).2.1 hsz, (h3 b hb).2.2⟩⟩
theorem OL.keep {w w' : World} {base : Nat} {V : Value} {L : List (Option (List Int))} {vs : List Value} (h : OL w base V L vs) (hb : Below w.heap.size w w') : OL w' base V L vs := h.other hb.size (fun b _ hb2 => hb.block b hb2)

theorem OL.snoc {w w2 : World} {base : Nat} {V V' : Value} {L : List (Option (List Int))} {vs : List Value} (h : OL w base V L vs) {x : Option (List Int)} {u : Value} {o : Obj} (hu : OptV w u x)
    (hub : ∀ b, u.ownBlock = some b → base ≤ b ∧ b < w.heap.size ∧ V.ownBlock ≠ some b) (hown : w2.ownsRow base 39 1 V' (L.length + 1) (vs ++ [u])) (hg : (w.alloc o).grownBy w2 V.ownBlock)
    (hap : ∀ g, V'.ownBlock = some g → V.ownBlock = some g ∨ w.heap.size + 1 ≤ g) : OL w2 base V' (L ++ [x]) (vs ++ [u]) := by
  have hsz : w.heap.size + 1 ≤ w2.heap.size := by have := hg.size; simpa using this
  have key : ∀ b : Nat, b < w.heap.size → V.ownBlock ≠ some b → w2.heap[b]? = w.heap[b]? := by
    intro b hb hne
    rw [hg.block b (by simp; omega) (fun e => hne e.symm), Below.heap_alloc _ _ _ hb]
  refine ⟨by simp [h.len], by simpa using hown, fun j y hy => ?_⟩
  by_cases hj : j < L.length
  · rw [List.getElem?_append_left hj] at hy
    obtain ⟨z, h1, h2, h3⟩ := h.rows j y hy
    refine ⟨z, by rw [List.getElem?_append_left (by rw [h.len]; exact hj)]; exact h1, h2.other (fun b hb => key b (h3 b hb).2.1 (h3 b hb).2.2), fun b hb => ?_⟩
    have h4 := (h3 b hb).2.1
    refine ⟨(h3 b hb).1, by omega, fun e => ?_⟩
    rcases hap b e with e' | e'
    · exact (h3 b hb).2.2 e'
    · omega
  · have hjL : j = L.length := by
      have := (List.getElem?_eq_some_iff.1 hy).1
      simp at this; omega
    subst hjL
    rw [List.getElem?_append_right (Nat.le_refl _), Nat.sub_self] at hy
    simp at hy
    subst hy
    refine ⟨u, by rw [List.getElem?_append_right (by rw [h.len]; exact Nat.le_refl _), h.len]; simp, hu.other (fun b hb => key b (hub b hb).2.1 (hub b hb).2.2), fun b hb => ?_⟩
    have h4 := (hub b hb).2.1
    refine ⟨(hub b hb).1, by omega, fun e => ?_⟩
    rcases hap b e with e' | e'
    · exact (hub b hb).2.2 e'
    · omega

theorem OL.read {w : World} {base : Nat} {V : Value} {L : List (Option (List Int))} {vs : List Value} (h : OL w base V L vs) : OptAt w V L := by
  rcases h.own.2 with ⟨hv, hn⟩ | ⟨g, cap, cur, hv, hg, hh, _⟩
  · have h0 : L = [] := List.eq_nil_of_length_eq_zero hn
    subst h0
    exact ⟨none, base, 0, 0, hv, fun h => absurd rfl h, fun _ => ⟨rfl, rfl⟩, fun k x h => by simp at h⟩
  · refine ⟨_, g, 0, cap, hv, fun _ => rfl, fun h => by simp at h, fun k x hk => ?_⟩
    obtain ⟨u, h1, h2, h3⟩ := h.rows k x hk
    have := h.own.cells (g := g) (by rw [hv]; rfl) k u h1
    rw [Addr.add_lit] at this
    rw [Nat.mul_one]
    exact ⟨u, this, h2⟩

/-- Is an execution allowed? -/
def Alw (T : List (List Ins)) (E : List Evt) (x : Exe) : Prop := JudIs (Cyc E.length (cohA E x)) (tornB E x) (Cyc E.length (kepA T E x)) (¬ Parts E.length (mtL (thoL 2 E 0) (thoL 3 E 0) (thoL 4 E 0)) (kepA T E x)) 0
/-- Which candidates are allowed. -/
def Als (T : List (List Ins)) (E : List Evt) (al : Nat → Bool) : Prop := ∀ n, n < sizeN E → (al n = true ↔ Alw T E (exN E n))
theorem als_ex (T : List (List Ins)) (E : List Evt) : ∃ al, Als T E al := by
  refine ⟨fun n => @decide (Alw T E (exN E n)) (Classical.propDecidable _), fun n _ => ?_⟩
  simp

def optL (al : Nat → Bool) (T : List (List Ins)) (E : List Evt) (N : Nat) : List (Option (List Int)) := (List.range N).map fun n => if al n then some (stX T E (exN E n)) else none
theorem optL_len (al : Nat → Bool) (T : List (List Ins)) (E : List Evt) (N : Nat) : (optL al T E N).length = N := by unfold optL; simp
theorem optL_step (al : Nat → Bool) (T : List (List Ins)) (E : List Evt) (N : Nat) : optL al T E (N + 1) = optL al T E N ++ [if al N then some (stX T E (exN E N)) else none] := by unfold optL; rw [List.range_succ, List.map_append]; rfl

theorem JudIs.zero {P : Prop} {t : Bool} {Q S : Prop} {r : Int} (h : JudIs P t Q S r) : r = 0 ↔ JudIs P t Q S 0 := ⟨fun e => by rw [e] at h; exact h, fun k => h.one k⟩

theorem alw_cyc {T : List (List Ins)} {E : List Evt} {x : Exe} (h : Alw T E x) : ¬ Cyc E.length (kepA T E x) := by
  rcases h with ⟨h, _⟩ | ⟨_, ⟨h, _⟩ | ⟨_, ⟨h, _⟩ | ⟨h, _⟩⟩⟩
  · cases h
  · cases h
  · cases h
  · exact h

theorem JudIs.ex (P : Prop) (t : Bool) (Q S : Prop) : ∃ r, JudIs P t Q S r := by
  by_cases h1 : P
  · exact ⟨1, .inl ⟨rfl, h1⟩⟩
  · cases ht : t
    · by_cases h3 : Q
      · exact ⟨3, .inr ⟨h1, .inr ⟨rfl, .inl ⟨rfl, h3⟩⟩⟩⟩
      · by_cases h4 : S
        · exact ⟨4, .inr ⟨h1, .inr ⟨rfl, .inr ⟨h3, .inl ⟨rfl, h4⟩⟩⟩⟩⟩
        · exact ⟨0, .inr ⟨h1, .inr ⟨rfl, .inr ⟨h3, .inr ⟨h4, rfl⟩⟩⟩⟩⟩
    · exact ⟨2, .inr ⟨h1, .inl ⟨rfl, rfl⟩⟩⟩

theorem IntNew.own {B : Nat} {w : World} {v : Value} {l : List Int} (h : IntNew B w v l) (hl : l ≠ []) : ∀ b, v.ownBlock = some b → B ≤ b ∧ b < w.heap.size := by
  obtain ⟨ao, b, off, cap, ⟨hv, ha, _, hc⟩, hB, _⟩ := h
  intro g hg
  rw [hv, ha hl] at hg
  have : b = g := by simpa [Value.ownBlock] using hg
  subst this
  obtain ⟨x, hx⟩ : ∃ x, l[0]? = some x := by
    cases l with
    | nil => exact absurd rfl hl
    | cons a l => exact ⟨a, rfl⟩
  exact ⟨hB, World.block_lt_of_cell? _ _ (hc 0 x hx)⟩

end Go.Proofs.Ytomijmikkbhgmab

namespace Go.Proofs.Ytomijmikkbhgmab

/-- Those that some of them lead to. -/
def stepC (A : List (Int × Int)) (S : List Nat) : List Nat := S.filter fun b => S.any fun a => arwB A a b
def itC (A : List (Int × Int)) : Nat → List Nat → List Nat
  | 0, S => S
  | k + 1, S => itC A k (stepC A S)
def cycB (n : Nat) (A : List (Int × Int)) : Bool := !(itC A n (List.range n)).isEmpty

theorem itC_nil (A : List (Int × Int)) (k : Nat) : itC A k [] = [] := by
  induction k with
  | zero => rfl
  | succ k ih => exact ih

theorem itC_cyc {n : Nat} {A : List (Int × Int)} (k : Nat) (S : List Nat) (hS : ∀ a ∈ S, a < n) (hl : S.length ≤ k) (hne : itC A k S ≠ []) : Cyc n A := by
  induction k generalizing S with
  | zero =>
    have : S = [] := List.eq_nil_of_length_eq_zero (by omega)
    subst this
    exact absurd rfl hne
  | succ k ih =>
    by_cases h : stepC A S = S
    · have hSne : S ≠ [] := fun e => by subst e; exact hne (itC_nil A _)
      refine ⟨fun a => a ∈ S, ?_, fun b _ hb => ?_⟩
      · obtain ⟨b, hb⟩ := List.exists_mem_of_ne_nil S hSne
        exact ⟨b, hS b hb, hb⟩
      · have hb2 : b ∈ stepC A S := by rw [h]; exact hb
        unfold stepC at hb2
        have := (List.mem_filter.1 hb2).2
        obtain ⟨a, ha, hA⟩ := List.any_eq_true.1 this
        exact ⟨a, hS a ha, ha, arwB_iff.1 hA⟩
    · refine ih (stepC A S) (fun a ha => hS a (List.mem_filter.1 ha).1) ?_ hne
      have hle := List.length_filter_le (fun b => S.any fun a => arwB A a b) S
      have hlt : (stepC A S).length ≠ S.length := fun e => h (List.filter_eq_self.2 (List.length_filter_eq_length_iff.1 e))
      unfold stepC at hlt ⊢
      omega

theorem cyc_itC {n : Nat} {A : List (Int × Int)} {P : Nat → Prop} (hc : Core n A P) (k : Nat) (S : List Nat) (hS : ∀ b, b < n → P b → b ∈ S) : ∀ b, b < n → P b → b ∈ itC A k S := by
  induction k generalizing S with
  | zero => exact hS
  | succ k ih =>
    refine ih (stepC A S) (fun b hb hP => ?_)
    obtain ⟨a, h1, h2, h3⟩ := hc b hb hP
    exact List.mem_filter.2 ⟨hS b hb hP, List.any_eq_true.2 ⟨a, hS a h1 h2, arwB_iff.2 h3⟩⟩

theorem cycB_iff {n : Nat} {A : List (Int × Int)} : cycB n A = true ↔ Cyc n A := by
  unfold cycB
  rw [Bool.not_eq_true', List.isEmpty_eq_false_iff]
  constructor
  · exact fun h => itC_cyc n (List.range n) (fun a ha => by simpa using ha) (by simp) h
  · rintro ⟨P, ⟨b, hb, hP⟩, hc⟩
    exact List.ne_nil_of_mem (cyc_itC hc n (List.range n) (fun b hb _ => by simpa using hb) b hb hP)

def partsB (n : Nat) : List Mt → List (Int × Int) → Bool
  | [], A => !cycB n A
  | m :: ms, A => !cycB n A && (partsB n ms (A ++ [pick false m]) || partsB n ms (A ++ [pick true m]))
theorem partsB_iff {n : Nat} {ms : List Mt} {A : List (Int × Int)} : partsB n ms A = true ↔ Parts n ms A := by
  have h0 : ∀ A, (!cycB n A) = true ↔ ¬ Cyc n A := fun A => by rw [← cycB_iff (n := n) (A := A)]; simp
  induction ms generalizing A with
  | nil => exact h0 A
  | cons m ms ih =>
    rw [partsB, Parts, Bool.and_eq_true, Bool.or_eq_true, h0]
    exact and_congr Iff.rfl (or_congr ih ih)

/-- Is an execution allowed? -/
def alB (T : List (List Ins)) (E : List Evt) (x : Exe) : Bool :=
  !cycB E.length (cohA E x) && !tornB E x && !cycB E.length (kepA T E x) && partsB E.length (mtL (thoL 2 E 0) (thoL 3 E 0) (thoL 4 E 0)) (kepA T E x)

theorem alB_iff {T : List (List Ins)} {E : List Evt} {x : Exe} : alB T E x = true ↔ Alw T E x := by
  have h0 : ∀ A, (!cycB E.length A) = true ↔ ¬ Cyc E.length A := fun A => by rw [← cycB_iff (n := E.length) (A := A)]; simp
  unfold alB Alw JudIs
  simp only [Bool.and_eq_true, h0, partsB_iff]
  constructor
  · rintro ⟨⟨⟨h1, h2⟩, h3⟩, h4⟩
    exact .inr ⟨h1, .inr ⟨by simpa using h2, .inr ⟨h3, .inr ⟨fun h => h h4, trivial⟩⟩⟩⟩
  · rintro (⟨h, _⟩ | ⟨h1, ⟨h, _⟩ | ⟨h2, ⟨h, _⟩ | ⟨h3, ⟨h, _⟩ | ⟨h4, _⟩⟩⟩⟩)
    · cases h
    · cases h
    · cases h
    · cases h
    · exact ⟨⟨⟨h1, by simpa using h2⟩, h3⟩, Classical.byContradiction h4⟩

theorem als_alB (T : List (List Ins)) (E : List Evt) : Als T E (fun n => alB T E (exN E n)) := fun _ _ => alB_iff

end Go.Proofs.Ytomijmikkbhgmab
