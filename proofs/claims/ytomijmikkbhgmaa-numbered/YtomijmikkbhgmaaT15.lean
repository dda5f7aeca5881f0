import Derived.Test.YtomijmikkbhgmaaT14
import Derived.Deep.LoopGhost
import Derived.Test.YtomijmikkbhgmaaLt
namespace Go.Proofs.Ytomijmikkbhgmaa
open Go.RowKit

theorem chO_cons (n m : Nat) (l : List Int) (wt : Nat) : chO n (m + 1) l wt = l.getD (n / (wt / l.length) % l.length) 0 :: chO n m (l.eraseIdx (n / (wt / l.length) % l.length)) (wt / l.length) := rfl

theorem own_only {B : Nat} {w w' : World} {base : Nat} {e : TypeId} {size : Nat} {v : Value} {n : Nat} {xs : List Value} (h : w.ownsRow base e size v n xs) (ho : Only B w w') (hB : ∀ g, v.ownBlock = some g → g ≠ B) : w'.ownsRow base e size v n xs := by
  refine ⟨h.1, ?_⟩
  rcases h.2 with h2 | ⟨g, cap, cur, hv, hg, hh, r⟩
  · exact Or.inl h2
  · exact Or.inr ⟨g, cap, cur, hv, hg, by rw [ho.block g (Array.getElem?_eq_some_iff.1 hh).1 (hB g (by rw [hv]; rfl))]; exact hh, r⟩

set_option maxHeartbeats 2000000 in
theorem chooseOrder_any (l : List Int) (hl : l.length ≤ 96) (v : Value) (w : World) (ao : Option Addr) (b off cap : Nat) (h : SlAt w 1 IntC v l ao b off cap) (B n wt R : Nat) (hbB : b ≠ B) (_hbw : l ≠ [] → b < w.heap.size) (hc : Chs w B n wt) (hwt : wt = fac l.length * R) (hR : 1 ≤ R) (hw2 : wt ≤ 2001) (hn2 : n ≤ 2001) :
    Calls Try.prog 70 #[.pointer (some ⟨B, 0, none⟩), v] w fun e w' => ∃ u, e = .returned u ∧ IntOwn w.heap.size w' u (chO n l.length l wt) ∧ Chs w' B n R ∧ Only B w w' := by
  have HH : Hid (SlAt w 1 IntC v l ao b off cap) := h
  have hv := h.hv
  clear h
  subst hv
  obtain ⟨i0, hi, hz0, hz1, hz2⟩ := info_parts Try.info3
  have HI : Hid (Try.prog.info? 3 = some i0 ∧ i0.zero = some (.int .i64 0) ∧ i0.size = 1 ∧ i0.bytes = 8) := ⟨hi, hz0, hz1, hz2⟩
  clear hi hz0 hz1 hz2
  have hBl := hc.lt
  have HCH : Hid (Chs w B n wt) := hc
  generalize hL : chO n l.length l wt = L
  have HL : Hid (chO n l.length l wt = L) := hL
  have HWT : Hid (wt = fac l.length * R) := hwt
  clear hL hwt hc
  go_enter Try.func70, Try.ntmps70
  go_wp2_with fail
  go_loopg [5, 6] l.length (fun gk u vl wr => ∃ (xs lf : List Int) (wk : Nat) (ao : Option Addr) (b off cap : Nat), lf.length = gk ∧ vl = .slice ao lf.length cap ∧ xs.length + lf.length ≤ 96 ∧ Hid (L = xs ++ chO n lf.length lf wk) ∧ Hid (wk = fac lf.length * R) ∧ wk ≤ 2001 ∧ wr.ownsRow w.heap.size 3 1 u xs.length (xs.map (Value.int .i64)) ∧ SlAt wr 1 IntC vl lf ao b off cap ∧ b ≠ B ∧ (lf ≠ [] → ∀ g, u.ownBlock = some g → g ≠ b) ∧ Chs wr B n wk ∧ Only B w wr)
  case atStart =>
    exact ⟨[], l, wt, ao, b, off, cap, rfl, rfl, by simpa using hl, HL.out.symm, HWT.out, hw2, World.ownsRow_nil _ _ _ _, HH.out, hbB, fun _ g hg => by simp [Value.ownBlock] at hg, HCH.out, Only.refl _ _⟩
  case round =>
    obtain ⟨xs, lf, wk, aoL, bL, offL, capL, hgk, rfl, hxl, hn, hwk, hwk2, hown, hsl, hbL, hap, hch, ho⟩ := hrel
    clear HH
    have HG : Hid (lf.length = gk) := hgk
    clear hgk
    have hsz := ho.size
    have HCK : Hid (Chs wr B n wk) := hch
    have HO : Hid (Only B w wr) := ho
    have HSL : Hid (SlAt wr 1 IntC (.slice aoL lf.length capL) lf aoL bL offL capL) := hsl
    have ha := hsl.ha
    clear hch ho hsl
    by_cases hlt : 0 < lf.length
    · obtain rfl := ha (ne_nil hlt)
      obtain ⟨m, hm⟩ : ∃ m, lf.length = m + 1 := ⟨lf.length - 1, by omega⟩
      have HM : Hid (lf.length = m + 1) := hm
      have HQ : Hid (wk / lf.length = fac m * R) := by unfold Hid; rw [hwk.out, hm, fac, Nat.mul_assoc]; exact Nat.mul_div_cancel_left _ (by omega)
      have hmw : lf.length ≤ wk := by rw [hwk.out, hm, fac, Nat.mul_assoc]; exact Nat.le_mul_of_pos_right _ (Nat.mul_le_mul (fac_pos m) hR)
      have hat : n / (wk / lf.length) % lf.length < lf.length := Nat.mod_lt _ hlt
      obtain ⟨y, hy⟩ := get_of_lt hat
      have HN2 : Hid (L = (xs ++ [y]) ++ chO n m (lf.eraseIdx (n / (wk / lf.length) % lf.length)) (wk / lf.length)) := hn.out.trans (by
        have e : chO n lf.length lf wk = chO n (m + 1) lf wk := by rw [hm]
        rw [e, chO_cons, List.getD, hy]; simp)
      have hwk3 : wk / lf.length ≤ 2001 := Nat.le_trans (Nat.div_le_self _ _) hwk2
      generalize hr : n / (wk / lf.length) % lf.length = r at hat hy HN2
      have HR : Hid (n / (wk / lf.length) % lf.length = r) := hr
      have HY : Hid (lf[r]? = some y) := hy
      have hap' := hap (ne_nil hlt)
      have HA : Hid ((lf.eraseIdx r).length = m) := by unfold Hid; rw [List.length_eraseIdx, if_pos hat]; omega
      clear hr hy hn hm ha hap
      go_wp2_with fail
      refine (next_any B n wk lf.length _ HCK.out hlt hmw hwk2 hn2).mono ?_
      rw [HR.out]
      rintro e w4 ⟨rfl, hC4, ho4⟩
      have hnB : ∀ g, u5.ownBlock = some g → g ≠ B := fun g hg => by have := (hown.lt g hg).1; omega
      have hown4 := own_only hown ho4 hnB
      have HSL4 : Hid (SlAt w4 1 IntC (.slice (some ⟨bL, offL, none⟩) lf.length capL) lf (some ⟨bL, offL, none⟩) bL offL capL) := IntAt.only HSL.out ho4 hbL
      have y4 : w4.cell? ⟨bL, offL + r, none⟩ = some (.int .i64 y) := by
        have := HSL4.out.hc r y HY.out; unfold IntC at this; rwa [Nat.mul_one] at this
      have hl4 := World.block_lt_of_cell? _ _ y4
      have hs4 := ho4.size
      have HO4 : Hid (Only B w w4) := HO.out.trans ho4
      have HC4 : Hid (Chs w4 B n (wk / lf.length)) := hC4
      have hrI : (r : Int) < (lf.length : Int) := by omega
      clear hown HO ho4 hC4 HSL HCK
      go_wp2_with (at_builtin; refine append_new _ rfl (.tmp 16) (.tmp 21) 37 rfl w.heap.size 3 i0 (.int .i64 0) 1 8 Try.underlying37 HI.out.1 HI.out.2.1 HI.out.2.2.1 HI.out.2.2.2 rfl (by decide) u5 xs.length (xs.map (Value.int .i64)) rfl (hown4.alloc _) (some ⟨w4.heap.size, 0, none⟩) 1 1 [.int .i64 y] rfl (fun h => by cases h) rfl (fun ad had => by cases had; exact new_one rfl) (by simp [Value.oneCell']) (by unfold maxLen; omega) (by omega) (by simp; omega) ?_)
      intro u' w5 hown' hgrow hap5
      have HO5 : Hid (Only B w w5) := Only.grown (n := w.heap.size) hgrow (fun kk e => (hown4.lt kk e).1) (HO4.out.trans (Only.of_below (below_alloc _ _))) (Nat.le_refl _)
      have HC5 : Hid (Chs w5 B n (wk / lf.length)) := (HC4.out.below (below_alloc _ _)).keep (hgrow.block B (by have := HC4.out.lt; simp; omega) (fun e => hnB B e.symm rfl))
      have HW5 : Hid (w5.ownsRow w.heap.size 3 1 u' (xs ++ [y]).length ((xs ++ [y]).map (Value.int .i64))) := own_snoc hown'
      have HSL5 : Hid (IntAt w5 (.slice (some ⟨bL, offL, none⟩) lf.length capL) lf) :=
        ⟨_, bL, offL, capL, rfl, fun _ => rfl, fun h => by simp at h, fun j x hx => hgrow.cell (keep_cell (below_alloc _ _) (HSL4.out.hc j x hx)) (fun e => hap' bL e.symm rfl)⟩
      have hs5 : w4.heap.size + 1 ≤ w5.heap.size := by have := hgrow.size; simpa using this
      clear hgrow hown4 hown' HO4 HC4 y4 HSL4 hap5
      go_wp2_with fail
      refine (without_any lf (by omega) r _ _ HSL5.out).mono ?_
      rintro e w6 ⟨u6, rfl, hu6, hb6⟩
      obtain ⟨ao6, b6, off6, cap6, hsl6, hb66⟩ := hu6
      have hv6 := hsl6.hv
      subst hv6
      have HS6 : Hid (SlAt w6 1 IntC (.slice ao6 (lf.eraseIdx r).length cap6) (lf.eraseIdx r) ao6 b6 off6 cap6) := hsl6
      have HO6 : Hid (Only B w w6) := HO5.out.trans (Only.of_below hb6)
      have HC6 : Hid (Chs w6 B n (wk / lf.length)) := HC5.out.below hb6
      have HW6 : Hid (w6.ownsRow w.heap.size 3 1 u' (xs ++ [y]).length ((xs ++ [y]).map (Value.int .i64))) := own_keep HW5.out hb6
      have HAP : Hid (∀ g, u'.ownBlock = some g → g ≠ b6) := fun g hg => by have := (HW5.out.lt g hg).2; omega
      have HB6 : Hid (b6 ≠ B) := by unfold Hid; omega
      clear hsl6 hb6 hb66 HO5 HC5 HW5 HSL5
      go_wp2_with fail
      go_roundg m
      case measure => have := HM.out; have := HG.out; omega
      case rel =>
        have e := HA.out
        refine ⟨xs ++ [y], lf.eraseIdx r, wk / lf.length, ao6, b6, off6, cap6, e, rfl, by simp only [List.length_append, List.length_cons, List.length_nil]; rw [e]; have := HM.out; omega, ?_, ?_, hwk3, HW6.out, HS6.out, HB6.out, fun _ => HAP.out, HC6.out, HO6.out⟩
        · unfold Hid; rw [e]; exact HN2.out
        · unfold Hid; rw [e]; exact HQ.out
    · have h0 : lf = [] := List.eq_nil_of_length_eq_zero (by omega)
      subst h0
      have HF : Hid (L = xs) := hn.out.trans (by simp [chO])
      have hRk : wk = R := hwk.out.trans (by simp [fac])
      subst hRk
      clear hn hwk ha hap
      go_wp2_with fail
      go_ret
      exact ⟨_, rfl, by rw [HF.out]; exact owns_own hown, HCK.out, HO.out⟩

end Go.Proofs.Ytomijmikkbhgmaa

namespace Go.Proofs.Ytomijmikkbhgmaa
open Go.RowKit

theorem Try.infoInts : (Try.prog.info? 37).map (fun i => (i.zero, i.size, i.bytes)) = some (some (.slice none 0 0), 1, 24) := by kernel_rfl

def LC (w : World) (b off : Nat) (x : List Int) : Prop := ∃ u, w.cell? ⟨b, off, none⟩ = some u ∧ IntAt w u x
def LstAt (w : World) (v : Value) (L : List (List Int)) : Prop := ∃ ao b off cap, SlAt w 1 LC v L ao b off cap

theorem lc_keeps : Keeps LC := fun _ _ _ _ _ hb ⟨u, h1, h2⟩ => ⟨u, keep_cell hb h1, h2.keep hb⟩
theorem LstAt.keep {w w' : World} {v : Value} {L : List (List Int)} (h : LstAt w v L) (hb : Below w.heap.size w w') : LstAt w' v L := by
  obtain ⟨ao, b, off, cap, h⟩ := h
  exact ⟨ao, b, off, cap, h.keep lc_keeps hb⟩

structure ExeAt (w : World) (vf vo : Value) (x : Exe) : Prop where
  f : IntAt w vf x.from'
  o : LstAt w vo x.order
theorem ExeAt.keep {w w' : World} {vf vo : Value} {x : Exe} (h : ExeAt w vf vo x) (hb : Below w.heap.size w w') : ExeAt w' vf vo x := ⟨h.f.keep hb, h.o.keep hb⟩

theorem IntAt.form {w : World} {v : Value} {l : List Int} (h : IntAt w v l) : ∃ ao cap, v = .slice ao l.length cap := by
  obtain ⟨ao, b, off, cap, h⟩ := h
  exact ⟨ao, cap, h.hv⟩

theorem IntAt.other {w w' : World} {v : Value} {l : List Int} (h : IntAt w v l) (hs : ∀ b : Nat, v.ownBlock = some b → w'.heap[b]? = w.heap[b]?) : IntAt w' v l := by
  obtain ⟨ao, b, off, cap, hv, ha, hn, hc⟩ := h
  refine ⟨ao, b, off, cap, hv, ha, hn, fun k x hx => ?_⟩
  have hk : k < l.length := (List.getElem?_eq_some_iff.1 hx).1
  exact cell_heap (hs b (by rw [hv, ha (ne_nil hk)]; rfl)) (hc k x hx)

/-- A slice of numbers with room enough. -/
def IntCap (w : World) (v : Value) (l : List Int) : Prop := ∃ ao b off cap, SlAt w 1 IntC v l ao b off cap ∧ l.length ≤ cap
theorem IntNew.cap {B : Nat} {w : World} {v : Value} {l : List Int} (h : IntNew B w v l) : IntCap w v l := by
  obtain ⟨ao, b, off, cap, h1, _, h2⟩ := h
  exact ⟨ao, b, off, cap, h1, h2⟩
theorem IntCap.at' {w : World} {v : Value} {l : List Int} (h : IntCap w v l) : IntAt w v l := by
  obtain ⟨ao, b, off, cap, h1, _⟩ := h
  exact ⟨ao, b, off, cap, h1⟩
theorem IntCap.keep {w w' : World} {v : Value} {l : List Int} (h : IntCap w v l) (hb : Below w.heap.size w w') : IntCap w' v l := by
  obtain ⟨ao, b, off, cap, h1, h2⟩ := h
  exact ⟨ao, b, off, cap, h1.keep intC_keeps hb, h2⟩
theorem intCap_nil (w : World) : IntCap w (.slice none 0 0) [] := ⟨none, 0, 0, 0, ⟨rfl, fun h => absurd rfl h, fun _ => ⟨rfl, rfl⟩, fun k x h => by simp at h⟩, Nat.le_refl _⟩

theorem IntCap.other {w w' : World} {v : Value} {l : List Int} (h : IntCap w v l) (hs : ∀ b : Nat, v.ownBlock = some b → w'.heap[b]? = w.heap[b]?) : IntCap w' v l := by
  obtain ⟨ao, b, off, cap, ⟨hv, ha, hn, hc⟩, hl⟩ := h
  refine ⟨ao, b, off, cap, ⟨hv, ha, hn, fun k x hx => ?_⟩, hl⟩
  have hk : k < l.length := (List.getElem?_eq_some_iff.1 hx).1
  exact cell_heap (hs b (by rw [hv, ha (ne_nil hk)]; rfl)) (hc k x hx)
theorem IntCap.form {w : World} {v : Value} {l : List Int} (h : IntCap w v l) : ∃ ao cap, v = .slice ao l.length cap := h.at'.form

def LCC (w : World) (b off : Nat) (x : List Int) : Prop := ∃ u, w.cell? ⟨b, off, none⟩ = some u ∧ IntCap w u x
theorem lcc_keeps : Keeps LCC := fun _ _ _ _ _ hb ⟨u, h1, h2⟩ => ⟨u, keep_cell hb h1, h2.keep hb⟩

def LstC (w : World) (v : Value) (L : List (List Int)) : Prop := ∃ ao b off cap, SlAt w 1 LCC v L ao b off cap
theorem LstC.keep {w w' : World} {v : Value} {L : List (List Int)} (h : LstC w v L) (hb : Below w.heap.size w w') : LstC w' v L := by
  obtain ⟨ao, b, off, cap, h⟩ := h
  exact ⟨ao, b, off, cap, h.keep lcc_keeps hb⟩

/-- An execution whose lists have room for themselves. -/
structure ExeC (w : World) (vf vo : Value) (x : Exe) : Prop where
  f : IntAt w vf x.from'
  o : ∃ ao b off cap, SlAt w 1 LCC vo x.order ao b off cap
theorem ExeC.keep {w w' : World} {vf vo : Value} {x : Exe} (h : ExeC w vf vo x) (hb : Below w.heap.size w w') : ExeC w' vf vo x := by
  obtain ⟨ao, b, off, cap, hs⟩ := h.o
  exact ⟨h.f.keep hb, ao, b, off, cap, hs.keep lcc_keeps hb⟩
theorem ExeC.at' {w : World} {vf vo : Value} {x : Exe} (h : ExeC w vf vo x) : ExeAt w vf vo x := by
  obtain ⟨ao, b, off, cap, hs⟩ := h.o
  refine ⟨h.f, ao, b, off, cap, hs.hv, hs.ha, hs.hn, fun k l hl => ?_⟩
  obtain ⟨u, h1, h2⟩ := hs.hc k l hl
  exact ⟨u, h1, h2.at'⟩

/-- A slice of slices of the call's own, each of whose rows lies in a block of its own. -/
structure LL (w : World) (base : Nat) (V : Value) (L : List (List Int)) (vs : List Value) : Prop where
  len : vs.length = L.length
  own : w.ownsRow base 37 1 V L.length vs
  rows : ∀ (j : Nat) (x : List Int), L[j]? = some x → ∃ u, vs[j]? = some u ∧ IntCap w u x ∧ ∀ b, u.ownBlock = some b → base ≤ b ∧ b < w.heap.size ∧ V.ownBlock ≠ some b

theorem LL.nil (w : World) (base : Nat) : LL w base (.slice none 0 0) [] [] := ⟨rfl, World.ownsRow_nil _ _ _ _, fun j x h => by simp at h⟩

theorem LL.other {w w' : World} {base : Nat} {V : Value} {L : List (List Int)} {vs : List Value} (h : LL w base V L vs) (hsz : w.heap.size ≤ w'.heap.size) (hs : ∀ b : Nat, base ≤ b → b < w.heap.size → w'.heap[b]? = w.heap[b]?) : LL w' base V L vs := by
  refine ⟨h.len, own_other h.own (fun b hb => hs b (h.own.lt b hb).1 (h.own.lt b hb).2), fun j x hx => ?_⟩
  obtain ⟨u, h1, h2, h3⟩ := h.rows j x hx
  exact ⟨u, h1, h2.other (fun b hb => hs b (h3 b hb).1 (h3 b hb).2.1), fun b hb => ⟨(h3 b hb).1, Nat.lt_of_lt_of_le (h3 b hb).2.1 hsz, (h3 b hb).2.2⟩⟩
theorem LL.keep {w w' : World} {base : Nat} {V : Value} {L : List (List Int)} {vs : List Value} (h : LL w base V L vs) (hb : Below w.heap.size w w') : LL w' base V L vs := h.other hb.size (fun b _ hb2 => hb.block b hb2)
theorem LL.only {B : Nat} {w w' : World} {base : Nat} {V : Value} {L : List (List Int)} {vs : List Value} (h : LL w base V L vs) (ho : Only B w w') (hB : B < base) : LL w' base V L vs := h.other ho.size (fun b h1 h2 => ho.block b h2 (by omega))

theorem LL.snoc {w w2 : World} {base : Nat} {V V' : Value} {L : List (List Int)} {vs : List Value} (h : LL w base V L vs) {x : List Int} {u : Value} {o : Obj} (hu : IntCap w u x)
    (hub : ∀ b, u.ownBlock = some b → base ≤ b ∧ b < w.heap.size ∧ V.ownBlock ≠ some b) (hown : w2.ownsRow base 37 1 V' (L.length + 1) (vs ++ [u])) (hg : (w.alloc o).grownBy w2 V.ownBlock)
    (hap : ∀ g, V'.ownBlock = some g → V.ownBlock = some g ∨ w.heap.size + 1 ≤ g) : LL w2 base V' (L ++ [x]) (vs ++ [u]) := by
  have hsz : w.heap.size + 1 ≤ w2.heap.size := by have := hg.size; simpa using this
  have key : ∀ b : Nat, b < w.heap.size → V.ownBlock ≠ some b → w2.heap[b]? = w.heap[b]? := by
    intro b hb hne
    rw [hg.block b (by simp; omega) (fun e => hne e.symm), Below.heap_alloc _ _ _ hb]
  refine ⟨by simp [h.len], by simpa using hown, fun j y hy => ?_⟩
  by_cases hj : j < L.length
  · rw [List.getElem?_append_left hj] at hy
    obtain ⟨z, h1, h2, h3⟩ := h.rows j y hy
    refine ⟨z, by rw [List.getElem?_append_left (by rw [h.len]; exact hj)]; exact h1, h2.other (fun b hb => key b (h3 b hb).2.1 (h3 b hb).2.2), fun b hb => ?_⟩
    have h4 := (h3 b hb).2.1
    refine ⟨(h3 b hb).1, by omega, fun e => ?_⟩
    rcases hap b e with e' | e'
    · exact (h3 b hb).2.2 e'
    · omega
  · have hjL : j = L.length := by
      have := (List.getElem?_eq_some_iff.1 hy).1
      simp at this; omega
    subst hjL
    rw [List.getElem?_append_right (Nat.le_refl _), Nat.sub_self] at hy
    simp at hy
    subst hy
    refine ⟨u, by rw [List.getElem?_append_right (by rw [h.len]; exact Nat.le_refl _), h.len]; simp, hu.other (fun b hb => key b (hub b hb).2.1 (hub b hb).2.2), fun b hb => ?_⟩
    have h4 := (hub b hb).2.1
    refine ⟨(hub b hb).1, by omega, fun e => ?_⟩
    rcases hap b e with e' | e'
    · exact (hub b hb).2.2 e'
    · omega

/-- A list of lists in memory that is new: from block B on, its rows too. -/
def LstNew (B : Nat) (w : World) (v : Value) (L : List (List Int)) : Prop :=
  ∃ ao b off cap, v = .slice ao L.length cap ∧ (L ≠ [] → ao = some ⟨b, off, none⟩) ∧ (ao = none → L = [] ∧ cap = 0) ∧ B ≤ b ∧
    ∀ (k : Nat) (x : List Int), L[k]? = some x → ∃ u, w.cell? ⟨b, off + k, none⟩ = some u ∧ IntCap w u x ∧ ∀ g, u.ownBlock = some g → B ≤ g ∧ g < w.heap.size

theorem LL.read {w : World} {base : Nat} {V : Value} {L : List (List Int)} {vs : List Value} (h : LL w base V L vs) : LstNew base w V L := by
  rcases h.own.2 with ⟨hv, hn⟩ | ⟨g, cap, cur, hv, hg, hh, _⟩
  · have h0 : L = [] := List.eq_nil_of_length_eq_zero hn
    subst h0
    exact ⟨none, base, 0, 0, hv, fun h => absurd rfl h, fun _ => ⟨rfl, rfl⟩, Nat.le_refl _, fun k x h => by simp at h⟩
  · refine ⟨_, g, 0, cap, hv, fun _ => rfl, fun h => by simp at h, hg, fun k x hk => ?_⟩
    obtain ⟨u, h1, h2, h3⟩ := h.rows k x hk
    have := h.own.cells (g := g) (by rw [hv]; rfl) k u h1
    rw [Addr.add_lit] at this
    exact ⟨u, this, h2, fun b hb => ⟨(h3 b hb).1, (h3 b hb).2.1⟩⟩

theorem LstNew.at' {B : Nat} {w : World} {v : Value} {L : List (List Int)} (h : LstNew B w v L) : LstAt w v L := by
  obtain ⟨ao, b, off, cap, hv, ha, hn, _, hc⟩ := h
  refine ⟨ao, b, off, cap, hv, ha, hn, fun k x hx => ?_⟩
  obtain ⟨u, h1, h2, _⟩ := hc k x hx
  rw [Nat.mul_one]
  exact ⟨u, h1, h2.at'⟩
theorem LstNew.caps {B : Nat} {w : World} {v : Value} {L : List (List Int)} (h : LstNew B w v L) : ∃ ao b off cap, SlAt w 1 LCC v L ao b off cap := by
  obtain ⟨ao, b, off, cap, hv, ha, hn, _, hc⟩ := h
  refine ⟨ao, b, off, cap, hv, ha, hn, fun k x hx => ?_⟩
  obtain ⟨u, h1, h2, _⟩ := hc k x hx
  rw [Nat.mul_one]
  exact ⟨u, h1, h2⟩

/-- What is left of a slice behind its first k entries. -/
theorem intCap_drop {w : World} {l : List Int} {b off cap : Nat} (h : SlAt w 1 IntC (.slice (some ⟨b, off, none⟩) l.length cap) l (some ⟨b, off, none⟩) b off cap) (hc : l.length ≤ cap) {k : Nat} (hk : k ≤ l.length) :
    IntCap w (.slice (if cap = k then (some ⟨b, off, none⟩ : Option Addr) else some ⟨b, off + k, none⟩) (l.length - k) (cap - k)) (l.drop k) := by
  by_cases e : cap = k
  · rw [if_pos e]
    have hd : l.drop k = [] := List.drop_eq_nil_of_le (by omega)
    rw [hd]
    exact ⟨_, b, off, _, ⟨by rw [show l.length - k = 0 by omega]; rfl, fun h => absurd rfl h, fun h => by simp at h, fun k x h => by simp at h⟩, Nat.zero_le _⟩
  · rw [if_neg e]
    refine ⟨_, b, off + k, _, ⟨by rw [List.length_drop], fun _ => rfl, fun h => by simp at h, fun j x hx => ?_⟩, by rw [List.length_drop]; omega⟩
    rw [List.getElem?_drop] at hx
    have := h.hc (k + j) x hx
    unfold IntC at this ⊢
    rw [Nat.mul_one] at this ⊢
    rw [Nat.add_assoc]; exact this

end Go.Proofs.Ytomijmikkbhgmaa
