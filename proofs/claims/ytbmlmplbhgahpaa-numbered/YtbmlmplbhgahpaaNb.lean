import Derived.Test.YtbmlmplbhgahpaaNa
namespace Go.Proofs.Ytbmlmplbhgahpaa
open Go.RowKit

/-- What is left to choose of the weight. -/
theorem chF_cons (n : Nat) (o : List Int) (os : List (List Int)) (wt : Nat) : chF n (o :: os) wt = o.getD (n / (wt / o.length) % o.length) 0 :: chF n os (wt / o.length) := rfl

theorem rdo_hit {E : List Evt} {x : Evt} (h : (x.kind == 0) = true) (R : List Evt) : rdo E (x :: R) = (-1 :: wrs E 0 x.loc) :: rdo E R := by rw [rdo, if_pos h]
theorem rdo_mis {E : List Evt} {x : Evt} (h : (x.kind == 0) = false) (R : List Evt) : rdo E (x :: R) = rdo E R := by rw [rdo, if_neg (by simp [h])]

set_option maxHeartbeats 2000000 in
theorem chooseFrom_any (E : List Evt) (hE : E.length ≤ 96) (v : Value) (w0 w : World) (h : Ev4At w0 v E) (hw : Below w0.heap.size w0 w) (B n wt R : Nat) (hB : w0.heap.size ≤ B) (hc : Chs w B n wt) (hwt : wt = plen (rdo E E) * R) (hR : 1 ≤ R) (hw2 : wt ≤ 2001) (hn2 : n ≤ 2001) :
    Calls Try.prog 50 #[.pointer (some ⟨B, 0, none⟩), v] w fun e w' => ∃ u, e = .returned u ∧ IntNew w.heap.size w' u (chF n (rdo E E) wt) ∧ Chs w' B n R ∧ Only B w w' := by
  have HH : Hid (Ev4At w0 v E) := h
  obtain ⟨ao, b, off, cap, hv, ha, _, hcc⟩ := h
  subst hv
  obtain ⟨i0, hi, hz0, hz1, hz2⟩ := info_parts Try.info3
  have HI : Hid (Try.prog.info? 3 = some i0 ∧ i0.zero = some (.int .i64 0) ∧ i0.size = 1 ∧ i0.bytes = 8) := ⟨hi, hz0, hz1, hz2⟩
  clear hi hz0 hz1 hz2
  have HC : Hid (∀ k x, E[k]? = some x → Ev4C w0 b (off + k * 4) x) := hcc
  clear hcc
  have hBl := hc.lt
  have HCH : Hid (Chs w B n wt) := hc
  generalize hL : chF n (rdo E E) wt = L
  have HL : Hid (chF n (rdo E E) wt = L) := hL
  have HWT : Hid (wt = plen (rdo E E) * R) := hwt
  clear hL hwt hc
  go_enter Try.func50, Try.ntmps50
  go_wp2_with fail
  go_loopw [5, 12] (fun u i wr => ∃ (k : Nat) (xs : List Int) (wk : Nat), k ≤ E.length ∧ i = .int .i64 k ∧ xs.length ≤ k ∧ Hid (L = xs ++ chF n (rdo E (E.drop k)) wk) ∧ Hid (wk = plen (rdo E (E.drop k)) * R) ∧ wk ≤ 2001 ∧ wr.ownsRow w.heap.size 3 1 u xs.length (xs.map (Value.int .i64)) ∧ Chs wr B n wk ∧ Only B w wr) (fun _ i _ => E.length - (intOf i).toNat)
  case atStart => exact ⟨0, [], wt, Nat.zero_le _, rfl, Nat.le_refl _, HL.out.symm, HWT.out, hw2, World.ownsRow_nil _ _ _ _, HCH.out, Only.refl _ _⟩
  case round =>
    obtain ⟨k, xs, wk, hk, rfl, hxk, hn, hwk, hwk2, hown, hch, ho⟩ := hrel
    have hsz := ho.size
    have hbw : Below w0.heap.size w0 wr := hw.trans (ho.below hB hw.size)
    have hchlt := hch.lt
    by_cases hlt : k < E.length
    · obtain ⟨x, hx⟩ := get_of_lt hlt
      obtain rfl := ha (ne_nil hlt)
      obtain ⟨c0, c1, c2, c3⟩ := ev4C_keeps _ _ _ _ _ hbw (HC.out k x hx)
      have hbl := World.block_lt_of_cell? _ _ c0
      have HN : Hid (L = xs ++ chF n (rdo E (x :: E.drop (k + 1))) wk) := by rw [← drop_cons hx]; exact hn
      have HK : Hid (wk = plen (rdo E (x :: E.drop (k + 1))) * R) := by rw [← drop_cons hx]; exact hwk
      have HCK : Hid (Chs wr B n wk) := hch
      have HO : Hid (Only B w wr) := ho
      clear hn hwk hx ha hch ho
      cases h1 : x.kind == 0
      · have HN1 : Hid (L = xs ++ chF n (rdo E (E.drop (k + 1))) wk) := HN.out.trans (by rw [rdo_mis h1])
        have HK1 : Hid (wk = plen (rdo E (E.drop (k + 1))) * R) := HK.out.trans (by rw [rdo_mis h1])
        go_wp2_with fail
        go_roundw
        case measure => simp [intOf]; omega
        case rel => exact ⟨k + 1, xs, wk, by omega, by go_num, by omega, HN1.out, HK1.out, hwk2, hown.alloc _, HCK.out.below (below_alloc _ _), HO.out.trans (Only.of_below (below_alloc _ _))⟩
      · have hwl := wrs_len E 0 x.loc
        have HN1 : Hid (L = xs ++ chF n ((-1 :: wrs E 0 x.loc) :: rdo E (E.drop (k + 1))) wk) := HN.out.trans (by rw [rdo_hit h1])
        have HK1 : Hid (wk = (-1 :: wrs E 0 x.loc).length * (plen (rdo E (E.drop (k + 1))) * R)) := HK.out.trans (by rw [rdo_hit h1, plen, Nat.mul_assoc])
        generalize hO : -1 :: wrs E 0 x.loc = O at HN1 HK1
        have HOO : Hid (-1 :: wrs E 0 x.loc = O) := hO
        have hOl : 1 ≤ O.length ∧ O.length ≤ 97 := by rw [← hO]; simp; omega
        obtain ⟨hO1, hO2⟩ := hOl
        clear hO hwl HN HK
        have hP := plen_pos (rdo_pos E (E.drop (k + 1)))
        have hPR : 1 ≤ plen (rdo E (E.drop (k + 1))) * R := Nat.mul_le_mul hP hR
        have HQ : Hid (wk / O.length = plen (rdo E (E.drop (k + 1))) * R) := by unfold Hid; rw [HK1.out]; exact Nat.mul_div_cancel_left _ hO1
        have hmw : O.length ≤ wk := by rw [HK1.out]; exact Nat.le_mul_of_pos_right _ hPR
        have hat : n / (wk / O.length) % O.length < O.length := Nat.mod_lt _ hO1
        obtain ⟨y, hy⟩ := get_of_lt hat
        have HN2 : Hid (L = (xs ++ [y]) ++ chF n (rdo E (E.drop (k + 1))) (wk / O.length)) := HN1.out.trans (by rw [chF_cons, List.getD, hy]; simp)
        have hwk3 : wk / O.length ≤ 2001 := Nat.le_trans (Nat.div_le_self _ _) hwk2
        generalize hr : n / (wk / O.length) % O.length = r at hat hy
        have HR : Hid (n / (wk / O.length) % O.length = r) := hr
        have HY : Hid (O[r]? = some y) := hy
        clear hr hy hP hPR
        go_wp2_with fail
        refine (sources_any E hE x.loc _ _ (HH.out.keep (below_more hbw (below_alloc _ _)))).mono ?_
        rw [HOO.out]
        rintro e w3 ⟨u2, rfl, hu2, hb3⟩
        obtain ⟨ao4, b4, off4, cap4, ⟨hv4, ha4, _, hc4⟩, hb4⟩ := hu2
        subst hv4
        obtain rfl := ha4 (ne_nil (by omega : 0 < O.length))
        simp only [World.size_alloc] at hb4
        have hown3 := own_keep (hown.alloc _) hb3
        have hC3 := (HCK.out.below (below_alloc _ _)).below hb3
        have HO3 : Hid (Only B w w3) := HO.out.trans (Only.of_below (below_more (below_alloc _ _) hb3))
        have hap4 : ∀ g, u5.ownBlock = some g → g ≠ b4 := fun g hg => by have := (hown.lt g hg).2; omega
        have hs3 : wr.heap.size + 1 ≤ w3.heap.size := by have := hb3.size; simpa using this
        have HY4 : Hid (w3.cell? ⟨b4, off4 + r, none⟩ = some (.int .i64 y)) := by
          have := hc4 r y HY.out; unfold IntC at this; rwa [Nat.mul_one] at this
        clear hb3 hc4 ha4 hown c0 c1 c2 c3 HCK HO
        go_wp2_with fail
        refine (next_any B n wk O.length _ hC3 hO1 hmw hwk2 hn2).mono ?_
        rw [HR.out]
        rintro e w4 ⟨rfl, hC4, ho4⟩
        have hnB : ∀ g, u5.ownBlock = some g → g ≠ B := fun g hg => by have := (hown3.lt g hg).1; omega
        have hown4 : w4.ownsRow w.heap.size 3 1 u5 xs.length (xs.map (Value.int .i64)) := by
          refine ⟨hown3.1, ?_⟩
          rcases hown3.2 with h2 | ⟨g, cap, cur, hv, hg, hh, r⟩
          · exact Or.inl h2
          · exact Or.inr ⟨g, cap, cur, hv, hg, by rw [ho4.block g (Array.getElem?_eq_some_iff.1 hh).1 (hnB g (by rw [hv]; rfl))]; exact hh, r⟩
        have y4 := ho4.cell HY4.out (by omega)
        have hl4 := World.block_lt_of_cell? _ _ y4
        have hs4 := ho4.size
        have HO4 : Hid (Only B w w4) := HO3.out.trans ho4
        have HC4 : Hid (Chs w4 B n (wk / O.length)) := hC4
        have hrI : (r : Int) < (O.length : Int) := by omega
        clear hown3 hC3 HO3 ho4 hC4 HY4
        go_wp2_with (at_builtin; refine append_new _ rfl (.tmp 27) (.tmp 32) 37 rfl w.heap.size 3 i0 (.int .i64 0) 1 8 Try.underlying37 HI.out.1 HI.out.2.1 HI.out.2.2.1 HI.out.2.2.2 rfl (by decide) u5 xs.length (xs.map (Value.int .i64)) rfl (hown4.alloc _) (some ⟨w4.heap.size, 0, none⟩) 1 1 [.int .i64 y] rfl (fun h => by cases h) rfl (fun ad had => by cases had; exact new_one rfl) (by simp [Value.oneCell']) (by unfold maxLen; omega) (by omega) (by simp; omega) ?_)
        intro u' w5 hown' hgrow _
        have HO5 : Hid (Only B w w5) := Only.grown (n := w.heap.size) hgrow (fun kk e => (hown4.lt kk e).1) (HO4.out.trans (Only.of_below (below_alloc _ _))) (Nat.le_refl _)
        have HC5 : Hid (Chs w5 B n (wk / O.length)) := (HC4.out.below (below_alloc _ _)).keep (hgrow.block B (by have := HC4.out.lt; simp; omega) (fun e => hnB B e.symm rfl))
        have HW5 : Hid (w5.ownsRow w.heap.size 3 1 u' (xs ++ [y]).length ((xs ++ [y]).map (Value.int .i64))) := own_snoc hown'
        clear hgrow hown4 hown' HO4 HC4 y4
        go_wp2_with fail
        go_roundw
        case measure => simp [intOf]; omega
        case rel => exact ⟨k + 1, xs ++ [y], wk / O.length, by omega, by go_num, by simp; omega, HN2.out, HQ.out, hwk3, HW5.out, HC5.out, HO5.out⟩
    · have HF : Hid (L = xs) := hn.out.trans (by rw [drop_nil hlt]; simp [rdo, chF])
      have hRk : wk = R := hwk.out.trans (by rw [drop_nil hlt]; simp [rdo, plen])
      subst hRk
      have HCK : Hid (Chs wr B n wk) := hch
      have HO : Hid (Only B w wr) := ho
      clear hn hwk ha hch ho
      go_wp2_with fail
      go_ret
      exact ⟨_, rfl, by rw [HF.out]; exact owns_int hown, HCK.out, HO.out⟩

end Go.Proofs.Ytbmlmplbhgahpaa
