import Derived.Test.YtomijmikkbhgmabT47
import Derived.Test.YtomijmikkbhgmabT40
import Derived.Test.YtomijmikkbhgmabLt
import Derived.Test.YtomijmikkbhgmabT3
import Derived.Laws.OwnMore
namespace Go.Proofs.Ytomijmikkbhgmab
open Go.RowKit

def outR (s : List Int) (a b : Nat) : Nat → List Int
  | 0 => s
  | k + 1 => ((outR s a b k).set (3 * a + k) (s.getD (3 * b + k) 0)).set (3 * b + k) (s.getD (3 * a + k) 0)
def outF (s : List Int) (n a b c d : Nat) : List Int := ((outR s a b 3).set (3 * n + c) (s.getD (3 * n + d) 0)).set (3 * n + d) (s.getD (3 * n + c) 0)
theorem outR_len (s : List Int) (a b k : Nat) : (outR s a b k).length = s.length := by
  induction k with
  | zero => rfl
  | succ k ih => unfold outR; rw [List.length_set, List.length_set, ih]
theorem outF_len (s : List Int) (n a b c d : Nat) : (outF s n a b c d).length = s.length := by unfold outF; rw [List.length_set, List.length_set, outR_len]

theorem get_set' {l : List Int} {i t : Nat} {v : Int} (ht : t < l.length) : (l.set i v)[t]? = if i = t then some v else l[t]? := by
  by_cases h : i = t
  · subst h
    rw [if_pos rfl, List.getElem?_set_self ht]
  · rw [if_neg h, List.getElem?_set_ne h]

theorem outF_ren {s : List Int} {n a b c d : Nat} (hs : s.length = 3 * n + 3) (ha : a < n) (hb : b < n) (hc : c < 3) (hd : d < 3) : outF s n a b c d = renS n (sigT a b) c d s := by
  apply List.ext_getElem?
  intro t
  by_cases ht : t < 3 * n + 3
  · have l0 : t < s.length := by omega
    have g : ∀ l : List Int, l.length = s.length → t < l.length := fun l hl => by omega
    have hL : (outF s n a b c d)[t]? = if 3 * n + d = t then some (s.getD (3 * n + c) 0) else if 3 * n + c = t then some (s.getD (3 * n + d) 0) else if 3 * b + 2 = t then some (s.getD (3 * a + 2) 0) else if 3 * a + 2 = t then some (s.getD (3 * b + 2) 0) else if 3 * b + 1 = t then some (s.getD (3 * a + 1) 0) else if 3 * a + 1 = t then some (s.getD (3 * b + 1) 0) else if 3 * b + 0 = t then some (s.getD (3 * a + 0) 0) else if 3 * a + 0 = t then some (s.getD (3 * b + 0) 0) else s[t]? := by
      unfold outF
      rw [get_set' (g _ (by rw [List.length_set, outR_len])), get_set' (g _ (by rw [outR_len]))]
      unfold outR
      rw [get_set' (g _ (by rw [List.length_set, outR_len])), get_set' (g _ (by rw [outR_len]))]
      unfold outR
      rw [get_set' (g _ (by rw [List.length_set, outR_len])), get_set' (g _ (by rw [outR_len]))]
      unfold outR
      rw [get_set' (g _ (by rw [List.length_set, outR_len])), get_set' (g _ (by rw [outR_len]))]
      rfl
    have hst : s[t]? = some (s.getD t 0) := by rw [List.getD_eq_getElem?_getD, List.getElem?_eq_getElem l0]; rfl
    rw [hL, hst]
    by_cases h3 : t < 3 * n
    · obtain ⟨x, r, hr, rfl⟩ : ∃ x r, r < 3 ∧ t = 3 * x + r := ⟨t / 3, t % 3, Nat.mod_lt _ (by omega), by omega⟩
      have hx : x < n := by omega
      have hR : (renS n (sigT a b) c d s)[3 * x + r]? = some (s.getD (3 * sigT a b x + r) 0) := by
        have hf := flat_get (fun a' => (List.range 3).map fun r => s.getD (3 * sigT a b a' + r) 0) 3 (fun _ => by simp) (List.range n) x r x (by rw [List.getElem?_range hx]) hr
        have hlen : ((List.range n).flatMap fun a' => (List.range 3).map fun r => s.getD (3 * sigT a b a' + r) 0).length = n * 3 := by rw [flat_len _ 3 (fun _ => by simp)]; simp
        unfold renS
        rw [List.getElem?_append_left (by rw [hlen]; omega), Nat.mul_comm 3 x, hf, List.getElem?_map, List.getElem?_range hr]
        rfl
      rw [hR, if_neg (by omega), if_neg (by omega)]
      have hr3 : r = 0 ∨ r = 1 ∨ r = 2 := by omega
      unfold sigT
      by_cases h1 : x = a
      · subst h1
        rw [if_pos rfl]
        rcases hr3 with rfl | rfl | rfl
        · by_cases h2 : b = x
          · subst h2; simp
          · rw [if_neg (by omega), if_neg (by omega), if_neg (by omega), if_neg (by omega), if_neg (by omega), if_pos rfl]
        · by_cases h2 : b = x
          · subst h2; simp
          · rw [if_neg (by omega), if_neg (by omega), if_neg (by omega), if_pos rfl]
        · by_cases h2 : b = x
          · subst h2; simp
          · rw [if_neg (by omega), if_pos rfl]
      · rw [if_neg h1]
        by_cases h2 : x = b
        · subst h2
          rw [if_pos rfl]
          rcases hr3 with rfl | rfl | rfl
          · rw [if_neg (by omega), if_neg (by omega), if_neg (by omega), if_neg (by omega), if_pos rfl]
          · rw [if_neg (by omega), if_neg (by omega), if_pos rfl]
          · rw [if_pos rfl]
        · rw [if_neg h2, if_neg (by omega), if_neg (by omega), if_neg (by omega), if_neg (by omega), if_neg (by omega), if_neg (by omega)]
    · obtain ⟨l, hl, rfl⟩ : ∃ l, l < 3 ∧ t = 3 * n + l := ⟨t - 3 * n, by omega, by omega⟩
      have hR : (renS n (sigT a b) c d s)[3 * n + l]? = some (s.getD (3 * n + (lamL c d (l : Int)).toNat) 0) := by
        have hlen : ((List.range n).flatMap fun a' => (List.range 3).map fun r => s.getD (3 * sigT a b a' + r) 0).length = n * 3 := by rw [flat_len _ 3 (fun _ => by simp)]; simp
        unfold renS
        rw [List.getElem?_append_right (by rw [hlen]; omega), hlen, show 3 * n + l - n * 3 = l by omega, List.getElem?_map, List.getElem?_range hl]
        rfl
      rw [hR]
      by_cases h1 : l = c
      · have e : (lamL c d (l : Int)).toNat = d := by unfold lamL; rw [if_pos (by simp [h1]), Int.toNat_natCast]
        rw [e]
        by_cases h2 : d = l
        · rw [if_pos (by omega), h1.symm, h2]
        · rw [if_neg (by omega), if_pos (by omega)]
      · by_cases h2 : l = d
        · have e : (lamL c d (l : Int)).toNat = c := by unfold lamL; rw [if_neg (by simp; omega), if_pos (by simp [h2]), Int.toNat_natCast]
          rw [e, if_pos (by omega)]
        · have e : (lamL c d (l : Int)).toNat = l := by unfold lamL; rw [if_neg (by simp; omega), if_neg (by simp; omega), Int.toNat_natCast]
          rw [e, if_neg (by omega), if_neg (by omega), if_neg (by omega), if_neg (by omega), if_neg (by omega), if_neg (by omega), if_neg (by omega), if_neg (by omega)]
  · rw [List.getElem?_eq_none (by rw [outF_len]; omega), List.getElem?_eq_none]
    unfold renS
    have hlen : ((List.range n).flatMap fun a' => (List.range 3).map fun r => s.getD (3 * sigT a b a' + r) 0).length = n * 3 := by rw [flat_len _ 3 (fun _ => by simp)]; simp
    rw [List.length_append, hlen]
    simp
    omega

def intV (l : List Int) : List Value := l.map fun x => .int .i64 x
theorem intV_set (l : List Int) (i : Nat) (v : Int) : (intV l).set i (.int .i64 v) = intV (l.set i v) := by unfold intV; rw [List.map_set]

theorem owns_intR {w : World} {base : Nat} {e : TypeId} {v : Value} {l : List Int} (h : w.ownsRow base e 1 v l.length (intV l)) : IntAt w v l := by
  rcases h.2 with ⟨hv, hn⟩ | ⟨g, cap, cur, hv, hg, hh, _⟩
  · have h0 : l = [] := List.eq_nil_of_length_eq_zero hn
    subst h0
    exact ⟨none, 0, 0, 0, hv, fun h => absurd rfl h, fun _ => ⟨rfl, rfl⟩, fun k x h => by simp at h⟩
  · refine ⟨_, g, 0, cap, hv, fun _ => rfl, fun h => by simp at h, fun k x hk => ?_⟩
    have := h.cells (g := g) (by rw [hv]; rfl) k (.int .i64 x) (by unfold intV; rw [List.getElem?_map, hk]; rfl)
    rw [Addr.add_lit] at this
    unfold IntC
    rw [Nat.mul_one]
    exact this

theorem Try.infoIntR : (Try.prog.info? 3).map (fun i => (i.zero, i.size, i.bytes)) = some (some (.int .i64 0), 1, 8) := by kernel_rfl

set_option maxRecDepth 20000 in
set_option maxHeartbeats 4000000 in
theorem renamed_any (s : List Int) (n a b c d : Nat) (hn : n ≤ 4) (hs : s.length = 3 * n + 3) (ha : a < n) (hb : b < n) (hc : c < 3) (hd : d < 3) (v : Value) (w : World) (h : IntAt w v s) :
    Calls Try.prog 17 #[v, .int .i64 n, .int .i64 a, .int .i64 b, .int .i64 c, .int .i64 d] w fun e w' => ∃ u, e = .returned u ∧ IntAt w' u (renS n (sigT a b) c d s) ∧ Below w.heap.size w w' := by
  obtain ⟨i1, hi1, hy0, hy1, hy2⟩ := info_parts Try.infoIntR
  have HI : Hid (Try.prog.info? 3 = some i1 ∧ i1.zero = some (.int .i64 0) ∧ i1.size = 1 ∧ i1.bytes = 8) := ⟨hi1, hy0, hy1, hy2⟩
  clear hi1 hy0 hy1 hy2
  rw [← outF_ren hs ha hb hc hd]
  obtain ⟨ao, bs, off, cap, hv, hao, _, hcell⟩ := h
  subst hv
  have hne : s ≠ [] := by intro e; rw [e] at hs; simp at hs
  obtain rfl := hao hne
  have HC : Hid (∀ (w' : World) (k : Nat), Below w.heap.size w w' → k < 3 * n + 3 → w'.cell? ⟨bs, off + k, none⟩ = some (.int .i64 (s.getD k 0))) := fun w' k hbb hk => by
    obtain ⟨x, hx⟩ := get_of_lt (l := s) (k := k) (by omega)
    have := keep_cell hbb (hcell k x hx)
    rw [Nat.mul_one] at this
    rw [List.getD_eq_getElem?_getD, hx]
    exact this
  have hbs : bs < w.heap.size := by
    have := HC.out w 0 (Below.refl _ _) (by omega)
    exact World.block_lt_of_cell? _ _ this
  have HAL : Hid (∀ ad, some (⟨bs, off, none⟩ : Addr) = some ad → ∀ j u, (intV s)[j]? = some u → w.cell? (ad.add j) = some u) := fun ad had j u hj => by
    cases had
    unfold intV at hj
    rw [List.getElem?_map] at hj
    cases hsj : s[j]? with
    | none => rw [hsj] at hj; cases hj
    | some x =>
      rw [hsj] at hj
      cases hj
      have := hcell j x hsj
      rw [Nat.mul_one] at this
      rw [Addr.add_lit]
      exact this
  have HSL : Hid (s.length = 3 * n + 3) := hs
  clear hcell hao hne
  rw [hs]
  clear hs
  go_enter Try.func17, Try.ntmps17
  go_wp2_with (at_builtin; refine append_new _ rfl (.tmp 15) (.tmp 16) 39 rfl w.heap.size 3 i1 (.int .i64 0) 1 8 Try.underlying39 HI.out.1 HI.out.2.1 HI.out.2.2.1 HI.out.2.2.2 rfl (by decide) (.slice none 0 0) 0 [] rfl (World.ownsRow_nil _ _ _ _) (some ⟨bs, off, none⟩) (3 * n + 3) cap (intV s) rfl (fun h => by cases h) (by unfold intV; rw [List.length_map, HSL.out, Nat.mul_one]) HAL.out (by intro u hu; unfold intV at hu; obtain ⟨x, _, rfl⟩ := List.mem_map.1 hu; rfl) (by unfold maxLen; omega) (by omega) (Nat.le_refl _) ?_)
  intro v1 w1 hown1 hgrow1 _
  obtain ⟨g, cap1, hv1⟩ := own_some2 hown1 (by omega)
  subst hv1
  have hgw := (hown1.lt g rfl).1
  have hg1 : w.grownBy w1 none := hgrow1
  have hb1 : Below w.heap.size w w1 := ⟨hg1.os, hg1.tape, hg1.output, hg1.size, fun j hj => hg1.block j hj (by simp)⟩
  have HO1 : Hid (w1.ownsRow w.heap.size 3 1 (.slice (some ⟨g, 0, none⟩) (3 * n + 3) cap1) (3 * n + 3) (intV s)) := hown1
  clear hown1 hgrow1 hg1
  have hq : (((3 * n + 3 : Nat) : Int) != 3 * (n : Int) + 3) = false := by simp
  have HN3 : Hid (∃ N3, N3 = 3 * n + 3) := ⟨_, rfl⟩
  generalize hN : 3 * n + 3 = N3 at *
  have HNE : Hid (3 * n + 3 = N3) := hN
  have hN3 : N3 ≤ 15 := by omega
  clear hN HN3
  have n1 : ¬ bs = g := by omega
  have n2 : ¬ g = bs := by omega
  go_wp2_with fail
  go_loopw [14] (fun x wr => ∃ r : Nat, r ≤ 3 ∧ x = .int .i64 r ∧ Hid (wr.ownsRow w.heap.size 3 1 (.slice (some ⟨g, 0, none⟩) N3 cap1) N3 (intV (outR s a b r))) ∧ Below w.heap.size w wr) (fun x _ => 3 - (intOf x).toNat)
  case atStart => exact ⟨0, by omega, rfl, HO1.out, hb1⟩
  case round =>
    obtain ⟨r, hr, rfl, HO, hbr⟩ := hrel
    by_cases hlt : r < 3
    · have hrI : (r : Int) < 3 := by omega
      have hna : 3 * a + r < N3 := by have := HNE.out; omega
      have hnb : 3 * b + r < N3 := by have := HNE.out; omega
      have sa : wr.cell? ⟨bs, off + (3 * a + r), none⟩ = some (.int .i64 (s.getD (3 * a + r) 0)) := HC.out wr _ hbr hna
      have sb : wr.cell? ⟨bs, off + (3 * b + r), none⟩ = some (.int .i64 (s.getD (3 * b + r) 0)) := HC.out wr _ hbr hnb
      have HO2 : Hid (∀ va vb : Int, va = s.getD (3 * a + r) 0 → vb = s.getD (3 * b + r) 0 → (((wr.setCell ⟨g, 3 * a + r, none⟩ (.int .i64 vb)).setCell ⟨g, 3 * b + r, none⟩ (.int .i64 va))).ownsRow w.heap.size 3 1 (.slice (some ⟨g, 0, none⟩) N3 cap1) N3 (intV (outR s a b (r + 1)))) := fun va vb h1 h2 => by
        have q := ((HO.out.stored (3 * a + r) (.int .i64 vb)).1.stored (3 * b + r) (.int .i64 va)).1
        rw [intV_set, intV_set] at q
        unfold outR
        rw [← h1, ← h2]
        exact q
      have HV : Hid (∃ va vb : Int, va = s.getD (3 * a + r) 0 ∧ vb = s.getD (3 * b + r) 0) := ⟨_, _, rfl, rfl⟩
      obtain ⟨va, vb, hva, hvb⟩ := HV.out
      rw [← hva] at sa
      rw [← hvb] at sb
      have HO3 : Hid (((wr.setCell ⟨g, 3 * a + r, none⟩ (.int .i64 vb)).setCell ⟨g, 3 * b + r, none⟩ (.int .i64 va)).ownsRow w.heap.size 3 1 (.slice (some ⟨g, 0, none⟩) N3 cap1) N3 (intV (outR s a b (r + 1)))) := HO2.out va vb hva hvb
      have fa0 : wr.frozen? ⟨g, 3 * a + r, none⟩ = false := HO.out.frozenAt _
      obtain ⟨ua, ca0⟩ : ∃ u, wr.cell? ⟨g, 3 * a + r, none⟩ = some u := by
        have h1 := HO.out.cellAt (3 * a + r) (by omega)
        obtain ⟨u, hu⟩ := get_of_lt (l := intV (outR s a b r)) (k := 3 * a + r) (by unfold intV; rw [List.length_map, outR_len, HSL.out]; exact hna)
        exact ⟨u, h1.trans hu⟩
      have fb0 : (wr.setCell ⟨g, 3 * a + r, none⟩ (.int .i64 vb)).frozen? ⟨g, 3 * b + r, none⟩ = false := (HO.out.stored (3 * a + r) (.int .i64 vb)).1.frozenAt _
      obtain ⟨ub, cb0⟩ : ∃ u, (wr.setCell ⟨g, 3 * a + r, none⟩ (.int .i64 vb)).cell? ⟨g, 3 * b + r, none⟩ = some u := by
        have h1 := (HO.out.stored (3 * a + r) (.int .i64 vb)).1.cellAt (3 * b + r) (by omega)
        obtain ⟨u, hu⟩ := get_of_lt (l := (intV (outR s a b r)).set (3 * a + r) (.int .i64 vb)) (k := 3 * b + r) (by unfold intV; rw [List.length_set, List.length_map, outR_len, HSL.out]; exact hnb)
        exact ⟨u, h1.trans hu⟩
      have sa5 : (wr.setCell ⟨g, 3 * a + r, none⟩ (.int .i64 vb)).cell? ⟨bs, off + (3 * a + r), none⟩ = some (.int .i64 va) := cell_heap (heap_setCell_other wr ⟨g, 3 * a + r, none⟩ bs _ n1) sa
      have hb5 : Below w.heap.size w ((wr.setCell ⟨g, 3 * a + r, none⟩ (.int .i64 vb)).setCell ⟨g, 3 * b + r, none⟩ (.int .i64 va)) := (hbr.setCell (by show w.heap.size ≤ g; exact hgw) _).setCell (by show w.heap.size ≤ g; exact hgw) _
      have hIa : 3 * (a : Int) + (r : Int) = ((3 * a + r : Nat) : Int) := by omega
      have hIb : 3 * (b : Int) + (r : Int) = ((3 * b + r : Nat) : Int) := by omega
      clear HO2 HV hva hvb HO
      generalize 3 * a + r = ar at *
      generalize 3 * b + r = br at *
      have haI : (ar : Int) < (N3 : Int) := by omega
      have hbI : (br : Int) < (N3 : Int) := by omega
      go_upto_region 9 with fail
      obtain ⟨w5, hw5⟩ : ∃ x, x = wr.setCell ⟨g, ar, none⟩ (.int .i64 vb) := ⟨_, rfl⟩
      rw [← hw5] at HO3 fb0 cb0 sa5 hb5 ⊢
      clear hw5
      go_wp2_with fail
      go_roundw
      case measure => simp [intOf]; omega
      case rel => exact ⟨r + 1, by omega, by go_num, HO3.out, hb5⟩
    · have hrI : ¬ (r : Int) < 3 := by omega
      obtain rfl : r = 3 := by omega
      have hnc : 3 * n + c < N3 := by have := HNE.out; omega
      have hnd : 3 * n + d < N3 := by have := HNE.out; omega
      have sc : wr.cell? ⟨bs, off + (3 * n + c), none⟩ = some (.int .i64 (s.getD (3 * n + c) 0)) := HC.out wr _ hbr hnc
      have sd : wr.cell? ⟨bs, off + (3 * n + d), none⟩ = some (.int .i64 (s.getD (3 * n + d) 0)) := HC.out wr _ hbr hnd
      have HO2 : Hid (∀ vc vd : Int, vc = s.getD (3 * n + c) 0 → vd = s.getD (3 * n + d) 0 → ((wr.setCell ⟨g, 3 * n + c, none⟩ (.int .i64 vd)).setCell ⟨g, 3 * n + d, none⟩ (.int .i64 vc)).ownsRow w.heap.size 3 1 (.slice (some ⟨g, 0, none⟩) N3 cap1) N3 (intV (outF s n a b c d))) := fun vc vd h1 h2 => by
        have q := ((HO.out.stored (3 * n + c) (.int .i64 vd)).1.stored (3 * n + d) (.int .i64 vc)).1
        rw [intV_set, intV_set] at q
        unfold outF
        rw [← h1, ← h2]
        exact q
      have HV : Hid (∃ vc vd : Int, vc = s.getD (3 * n + c) 0 ∧ vd = s.getD (3 * n + d) 0) := ⟨_, _, rfl, rfl⟩
      obtain ⟨vc, vd, hvc, hvd⟩ := HV.out
      rw [← hvc] at sc
      rw [← hvd] at sd
      have HO3 : Hid (IntAt ((wr.setCell ⟨g, 3 * n + c, none⟩ (.int .i64 vd)).setCell ⟨g, 3 * n + d, none⟩ (.int .i64 vc)) (.slice (some ⟨g, 0, none⟩) N3 cap1) (outF s n a b c d)) := owns_intR (base := w.heap.size) (e := 3) (by rw [outF_len, HSL.out]; exact HO2.out vc vd hvc hvd)
      have fc0 : wr.frozen? ⟨g, 3 * n + c, none⟩ = false := HO.out.frozenAt _
      obtain ⟨uc, cc0⟩ : ∃ u, wr.cell? ⟨g, 3 * n + c, none⟩ = some u := by
        have h1 := HO.out.cellAt (3 * n + c) (by omega)
        obtain ⟨u, hu⟩ := get_of_lt (l := intV (outR s a b 3)) (k := 3 * n + c) (by unfold intV; rw [List.length_map, outR_len, HSL.out]; exact hnc)
        exact ⟨u, h1.trans hu⟩
      have fd0 : (wr.setCell ⟨g, 3 * n + c, none⟩ (.int .i64 vd)).frozen? ⟨g, 3 * n + d, none⟩ = false := (HO.out.stored (3 * n + c) (.int .i64 vd)).1.frozenAt _
      obtain ⟨ud, cd0⟩ : ∃ u, (wr.setCell ⟨g, 3 * n + c, none⟩ (.int .i64 vd)).cell? ⟨g, 3 * n + d, none⟩ = some u := by
        have h1 := (HO.out.stored (3 * n + c) (.int .i64 vd)).1.cellAt (3 * n + d) (by omega)
        obtain ⟨u, hu⟩ := get_of_lt (l := (intV (outR s a b 3)).set (3 * n + c) (.int .i64 vd)) (k := 3 * n + d) (by unfold intV; rw [List.length_set, List.length_map, outR_len, HSL.out]; exact hnd)
        exact ⟨u, h1.trans hu⟩
      have sc5 : (wr.setCell ⟨g, 3 * n + c, none⟩ (.int .i64 vd)).cell? ⟨bs, off + (3 * n + c), none⟩ = some (.int .i64 vc) := cell_heap (heap_setCell_other wr ⟨g, 3 * n + c, none⟩ bs _ n1) sc
      have hb5 : Below w.heap.size w ((wr.setCell ⟨g, 3 * n + c, none⟩ (.int .i64 vd)).setCell ⟨g, 3 * n + d, none⟩ (.int .i64 vc)) := (hbr.setCell (by show w.heap.size ≤ g; exact hgw) _).setCell (by show w.heap.size ≤ g; exact hgw) _
      have hIc : 3 * (n : Int) + (c : Int) = ((3 * n + c : Nat) : Int) := by omega
      have hId : 3 * (n : Int) + (d : Int) = ((3 * n + d : Nat) : Int) := by omega
      clear HO2 HV hvc hvd HO
      generalize 3 * n + c = nc at *
      generalize 3 * n + d = nd at *
      have hcI : (nc : Int) < (N3 : Int) := by omega
      have hdI : (nd : Int) < (N3 : Int) := by omega
      go_upto_region 11 with fail
      obtain ⟨w5, hw5⟩ : ∃ x, x = wr.setCell ⟨g, nc, none⟩ (.int .i64 vd) := ⟨_, rfl⟩
      rw [← hw5] at HO3 fd0 cd0 sc5 hb5 ⊢
      clear hw5
      go_wp2_with fail
      go_ret
      exact ⟨_, rfl, HO3.out, hb5⟩

end Go.Proofs.Ytomijmikkbhgmab

namespace Go.Proofs.Ytomijmikkbhgmab
open Go.RowKit

theorem take_step {l m : List Int} {k : Nat} {x : Int} (h : l.take k = m.take k) (hx : l[k]? = some x) (hy : m[k]? = some x) : l.take (k + 1) = m.take (k + 1) := by
  rw [List.take_add_one, List.take_add_one, h, hx, hy]

set_option maxHeartbeats 1000000 in
theorem sameK_any (l m : List Int) (hl : l.length ≤ 100000) (_hm : m.length ≤ 100000) (u v : Value) (w : World) (hu : IntAt w u l) (hv : IntAt w v m) :
    Calls Try.prog 30 #[u, v] w fun e w' => e = .returned (.bool (l == m)) ∧ Below w.heap.size w w' := by
  obtain ⟨ao, b, off, cap, hv1, ha, _, hc⟩ := hu
  obtain ⟨ao2, b2, off2, cap2, hv2, ha2, _, hc2⟩ := hv
  subst hv1 hv2
  have HC : Hid ((∀ k x, l[k]? = some x → IntC w b (off + k * 1) x) ∧ (∀ k x, m[k]? = some x → IntC w b2 (off2 + k * 1) x)) := ⟨hc, hc2⟩
  clear hc hc2
  generalize hR : (l == m) = R
  have HR : Hid ((l == m) = R) := hR
  clear hR
  by_cases hlm : l.length = m.length
  · have k0 : ((l.length : Int) != (m.length : Int)) = false := by simp [hlm]
    have HL : Hid (l.length = m.length) := hlm
    clear hlm
    go_enter Try.func30, Try.ntmps30
    go_wp2_with fail
    go_loopw [5] (fun i wr => ∃ k : Nat, k ≤ l.length ∧ i = .int .i64 k ∧ Hid (l.take k = m.take k) ∧ Below w.heap.size w wr) (fun i _ => l.length - (intOf i).toNat)
    case atStart => exact ⟨0, Nat.zero_le _, rfl, by simp [Hid], Below.refl _ _⟩
    case round =>
      obtain ⟨k, hk, rfl, HK, hb⟩ := hrel
      by_cases hlt : k < l.length
      · have hlt2 : k < m.length := HL.out ▸ hlt
        obtain ⟨x, hx⟩ := get_of_lt hlt
        obtain ⟨y, hy⟩ := get_of_lt hlt2
        obtain rfl := ha (ne_nil hlt)
        obtain rfl := ha2 (ne_nil hlt2)
        have c0 := intC_keeps _ _ _ _ _ hb (HC.out.1 k x hx)
        have d0 := intC_keeps _ _ _ _ _ hb (HC.out.2 k y hy)
        unfold IntC at c0 d0
        rw [Nat.mul_one] at c0 d0
        have hkI : (k : Int) < (l.length : Int) := by omega
        have hkI2 : (k : Int) < (m.length : Int) := by omega
        by_cases hxy : x = y
        · subst hxy
          have HM : Hid (l.take (k + 1) = m.take (k + 1)) := take_step HK.out hx hy
          have n0 : (x != x) = false := by simp
          clear hx hy HK
          go_wp2_with fail
          go_quiet (fail)
          go_wp2_with fail
          go_roundw
          case measure => simp [intOf]; omega
          case rel => exact ⟨k + 1, by omega, by go_num, HM.out, below_drewN hb _⟩
        · have n0 : (x != y) = true := by simpa using hxy
          have hne : R = false := by
            rw [← HR.out]
            refine beq_eq_false_iff_ne.2 fun e => hxy ?_
            rw [e, hy] at hx
            exact (Option.some.inj hx).symm
          subst hne
          clear hx hy HK HR
          go_wp2_with fail
          go_quiet (fail)
          go_wp2_with fail
          go_ret
          exact ⟨rfl, below_drewN hb _⟩
      · have hkI : (l.length : Int) ≤ (k : Int) := by omega
        have he : R = true := by
          have h1 := HK.out
          rw [List.take_of_length_le (by omega), List.take_of_length_le (by have := HL.out; omega)] at h1
          rw [← HR.out, h1]
          simp
        subst he
        clear HK HR
        go_wp2_with fail
        go_ret
        exact ⟨rfl, hb⟩
  · have k0 : ((l.length : Int) != (m.length : Int)) = true := by simp; omega
    have hne : R = false := by
      rw [← HR.out]
      exact beq_eq_false_iff_ne.2 fun e => hlm (by rw [e])
    subst hne
    clear hlm HR
    go_enter Try.func30, Try.ntmps30
    go_wp2_with fail
    go_ret
    exact ⟨rfl, Below.refl _ _⟩

theorem cnOu_drop_no {K : List (List Int × Nat)} {k : Nat} {p : List Int × Nat} {t : List Int} (hp : K[k]? = some p) (h : (p.1 == t) = false) : cnOu (K.drop k) t = cnOu (K.drop (k + 1)) t := by
  rw [drop_cons hp, cnOu, if_neg (by simp [h]), Nat.zero_add]

set_option maxRecDepth 20000 in
set_option maxHeartbeats 2000000 in
theorem counted_any (n : Nat) (K : List (List Int × Nat)) (hf : KFit n K) (hn : n ≤ 1000) (t : List Int) (ht : t.length ≤ 1000) (u v : Value) (w : World) (hu : OutAt w u K) (hv : IntAt w v t) :
    Calls Try.prog 15 #[u, v] w fun e w' => e = .returned (.int .i64 (cnOu K t : Nat)) ∧ Below w.heap.size w w' := by
  obtain ⟨ao, b, off, cap, hu1, ha, _, hc⟩ := hu
  obtain ⟨a2, p2, e2⟩ := hv.form
  subst hu1 e2
  have hK := hf.few
  have HC : Hid ((∀ k p, K[k]? = some p → OutC w b (off + k * 2) p) ∧ KFit n K ∧ IntAt w (.slice a2 t.length p2) t) := ⟨hc, hf, hv⟩
  clear hc hf hv
  generalize hR : cnOu K t = R
  have HR : Hid (cnOu K t = R) := hR
  clear hR
  have HN : Hid (n ≤ 1000) := hn
  clear hn
  go_enter Try.func15, Try.ntmps15
  go_wp2_with fail
  go_loopw [5] (fun i wr => ∃ k : Nat, k ≤ K.length ∧ i = .int .i64 k ∧ Hid (cnOu (K.drop k) t = R) ∧ Below w.heap.size w wr) (fun i _ => K.length - (intOf i).toNat)
  case atStart => exact ⟨0, Nat.zero_le _, rfl, HR, Below.refl _ _⟩
  case round =>
    obtain ⟨k, hk, rfl, HK, hb⟩ := hrel
    by_cases hlt : k < K.length
    · obtain ⟨p, hp⟩ := get_of_lt hlt
      obtain rfl := ha (ne_nil hlt)
      have hmem := List.mem_of_getElem? hp
      obtain ⟨u1, c0, c1, hi1⟩ := outC_keeps _ _ _ _ _ hb (HC.out.1 k p hp)
      have hpl := HC.out.2.1.len p hmem
      obtain ⟨a1, p1, e1⟩ := hi1.form
      subst e1
      have HS : Hid (∀ w', Below wr.heap.size wr w' → Calls Try.prog 30 #[.slice a1 p.1.length p1, .slice a2 t.length p2] w' fun e w'' => e = .returned (.bool (p.1 == t)) ∧ Below w'.heap.size w' w'') := fun w' hb' => sameK_any p.1 t (by have := HN.out; omega) (by omega) _ _ w' (hi1.keep hb') ((HC.out.2.2.keep hb).keep hb')
      have hkI : (k : Int) < (K.length : Int) := by omega
      cases hs : p.1 == t
      · have HM : Hid (cnOu (K.drop (k + 1)) t = R) := (cnOu_drop_no hp hs).symm.trans HK.out
        rw [hs] at HS
        generalize p.1.length = ln at *
        generalize p.2 = cn at *
        clear hi1 hp hpl hs HK hmem
        go_wp2_with fail
        refine (HS.out _ (Below.refl _ _)).mono ?_
        rintro e w7 ⟨rfl, hb7⟩
        have hb8 := below_more hb hb7
        clear HS c0 c1 hb hb7
        go_wp2_with fail
        go_roundw
        case measure => simp [intOf]; omega
        case rel => exact ⟨k + 1, by omega, by go_num, HM.out, hb8⟩
      · have hcn : R = p.2 := by
          have h1 : p.1 = t := by simpa using hs
          rw [← HR.out, ← h1]
          exact cnOu_at HC.out.2.1.srt hmem
        rw [hs] at HS
        have HCN : Hid (R = p.2) := hcn
        generalize p.1.length = ln at *
        generalize p.2 = cn at *
        clear hi1 hp hpl hs HK hmem hcn HR
        go_wp2_with fail
        refine (HS.out _ (Below.refl _ _)).mono ?_
        rintro e w7 ⟨rfl, hb7⟩
        have hb8 := below_more hb hb7
        replace c1 := keep_cell hb7 c1
        clear HS c0 hb hb7
        go_wp2_with fail
        go_ret
        obtain rfl := HCN.out
        exact ⟨rfl, hb8⟩
    · have hkI : (K.length : Int) ≤ (k : Int) := by omega
      have he : R = 0 := by
        have h1 := HK.out
        rw [drop_nil (by omega)] at h1
        exact h1.symm
      subst he
      clear HK
      go_wp2_with fail
      go_ret
      exact ⟨rfl, hb⟩

end Go.Proofs.Ytomijmikkbhgmab

namespace Go.Proofs.Ytomijmikkbhgmab
open Go.RowKit

/-- Nothing turns from block B on. -/
def Same (B : Nat) (w w' : World) : Prop := w.heap.size ≤ w'.heap.size ∧ ∀ b : Nat, B ≤ b → b < w.heap.size → w'.heap[b]? = w.heap[b]?
theorem Same.refl (B : Nat) (w : World) : Same B w w := ⟨Nat.le_refl _, fun _ _ _ => rfl⟩
theorem Same.of {B : Nat} {w w1 w2 : World} (hb : Below w.heap.size w w1) (h : Same B w1 w2) : Same B w w2 := ⟨Nat.le_trans hb.size h.1, fun b h1 h2 => (h.2 b h1 (Nat.lt_of_lt_of_le h2 hb.size)).trans (hb.block b h2)⟩
theorem Same.set {B : Nat} {w w' : World} (h : Same B w w') {R o : Nat} (hR : R < B) (u : Value) : Same B w (w'.setCell ⟨R, o, none⟩ u) :=
  ⟨by simpa [World.setCell] using h.1, fun b h1 h2 => by rw [Below.heap_setCell _ _ _ _ (by show b ≠ R; omega)]; exact h.2 b h1 h2⟩

def InsS (B : Nat) (w : World) (u : Value) (l : List Ins) : Prop := ∀ w', Same B w w' → InsAt w' u l
def ThrS (B : Nat) (w : World) (u : Value) (T : List (List Ins)) : Prop := ∀ w', Same B w w' → ThrAt w' u T
def AtmS (B : Nat) (w : World) (u : Value) (c : List Atm) : Prop := ∀ w', Same B w w' → AtmAt w' u c
theorem InsS.keep {B : Nat} {w w1 : World} {u : Value} {l : List Ins} (h : InsS B w u l) (hb : Below w.heap.size w w1) : InsS B w1 u l := fun _ hs => h _ (Same.of hb hs)
theorem ThrS.keep {B : Nat} {w w1 : World} {u : Value} {T : List (List Ins)} (h : ThrS B w u T) (hb : Below w.heap.size w w1) : ThrS B w1 u T := fun _ hs => h _ (Same.of hb hs)
theorem AtmS.keep {B : Nat} {w w1 : World} {u : Value} {c : List Atm} (h : AtmS B w u c) (hb : Below w.heap.size w w1) : AtmS B w1 u c := fun _ hs => h _ (Same.of hb hs)

theorem InsS.of_own {B base : Nat} {w : World} {e : TypeId} {v : Value} {l : List Ins} (hl : l.length ≤ 100) (h : w.ownsRow base e 5 v l.length (l.flatMap insV)) (hB : B ≤ base) : InsS B w v l := fun w' hs =>
  owns_ins (by omega) (own_other h (fun b hb => hs.2 b (Nat.le_trans hB (h.lt b hb).1) (h.lt b hb).2))

theorem InsS.form {B : Nat} {w : World} {u : Value} {l : List Ins} (h : InsS B w u l) : ∃ ao cap, u = .slice ao l.length cap := by
  obtain ⟨_, ao, b, off, cap, hs⟩ := h w (Same.refl _ _)
  exact ⟨ao, cap, hs.hv⟩

/-- Rows of a literal. -/
theorem ThrS.lit {B : Nat} {w : World} {us : List Value} {Ls : List (List Ins)} {t : TypeId} (hB : B ≤ w.heap.size) (hlen : us.length = Ls.length) (hl : Ls.length ≤ 100) (h : ∀ (i : Nat) (l : List Ins), Ls[i]? = some l → ∃ u, us[i]? = some u ∧ InsS B w u l) :
    ThrS B (w.alloc (.cells us.toArray t)) (.slice (some ⟨w.heap.size, 0, none⟩) Ls.length Ls.length) Ls := by
  intro w' hs
  refine ⟨by omega, _, w.heap.size, 0, _, rfl, fun _ => rfl, fun h => by simp at h, fun k l hk => ?_⟩
  obtain ⟨u, h1, h2⟩ := h k l hk
  have hc : (w.alloc (.cells us.toArray t)).cell? ⟨w.heap.size, k, none⟩ = some u := by
    rw [cell_of_row _ _ k us.toArray t (0, 0) (heap_alloc_new w _)]
    simpa using h1
  refine ⟨u, ?_, h2 w' (Same.of (below_alloc w _) hs)⟩
  rw [Nat.zero_add, Nat.mul_one]
  exact cell_heap (hs.2 w.heap.size hB (by simp)) hc

theorem AtmS.lit {B : Nat} {w : World} {c : List Atm} {t : TypeId} (hB : B ≤ w.heap.size) (hl : c.length ≤ 100) :
    AtmS B (w.alloc (.cells (c.flatMap atmV).toArray t)) (.slice (some ⟨w.heap.size, 0, none⟩) c.length c.length) c := by
  intro w' hs
  refine ⟨by omega, _, w.heap.size, 0, _, rfl, fun _ => rfl, fun h => by simp at h, fun k x hk => ?_⟩
  have hc : ∀ j u, (atmV x)[j]? = some u → w'.cell? ⟨w.heap.size, 0 + k * 3 + j, none⟩ = some u := fun j u hj => by
    have hj3 : j < 3 := (List.getElem?_eq_some_iff.1 hj).1
    refine cell_heap (hs.2 w.heap.size hB (by simp)) ?_
    rw [cell_of_row _ _ _ (c.flatMap atmV).toArray t (0, 0) (heap_alloc_new w _)]
    have := flat_get atmV 3 (fun _ => rfl) c k j x hk hj3
    rw [Nat.zero_add]
    simpa [this] using hj
  exact ⟨hc 0 _ rfl, hc 1 _ rfl, hc 2 _ rfl⟩

theorem InsS.lit {B : Nat} {w : World} {l : List Ins} {t : TypeId} (hB : B ≤ w.heap.size) (hl : l.length ≤ 100) :
    InsS B (w.alloc (.cells (l.flatMap insV).toArray t)) (.slice (some ⟨w.heap.size, 0, none⟩) l.length l.length) l := by
  refine InsS.of_own (base := w.heap.size) (e := t) hl ?_ hB
  have := World.ownsRow_lit (base := w.heap.size) (e := t) (size := 5) w (l.flatMap insV).toArray l.length (Nat.le_refl _) (by unfold maxLen; omega) (by simp [flat_len insV 5 (fun _ => rfl) l])
  simpa using this

theorem test_mk {w : World} {vt vc : Value} {T : List (List Ins)} {fa : Bool} {c : List Atm} (ht : ThrAt w vt T) (hc : AtmAt w vc c) : TestAt w (.agg #[vt, .bool fa, vc]) T fa c vt vc := ⟨rfl, ht, hc⟩

end Go.Proofs.Ytomijmikkbhgmab
