/- The program's choices: 'next', 'without', 'chooseFrom', 'chooseOrder'. -/
import Derived.Test.YtbmlmplbhgahpaaLk
import Derived.Test.YtbmlmplbhgahpaaMath3
import Derived.Deep.QuietTactic
import Derived.BigQuiet
namespace Go.Proofs.Ytbmlmplbhgahpaa
open Go.RowKit

/-- Nothing has turned but block B, and what is new. -/
structure Only (B : Nat) (w w' : World) : Prop where
  os : w'.os = w.os
  tape : w'.tape = w.tape
  output : w'.output = w.output
  size : w.heap.size ≤ w'.heap.size
  block : ∀ k, k < w.heap.size → k ≠ B → w'.heap[k]? = w.heap[k]?

theorem Only.refl (B : Nat) (w : World) : Only B w w := ⟨rfl, rfl, rfl, Nat.le_refl _, fun _ _ _ => rfl⟩
theorem Only.trans {B : Nat} {a b c : World} (h : Only B a b) (k : Only B b c) : Only B a c :=
  ⟨k.os.trans h.os, k.tape.trans h.tape, k.output.trans h.output, Nat.le_trans h.size k.size, fun i hi hn => (k.block i (Nat.lt_of_lt_of_le hi h.size) hn).trans (h.block i hi hn)⟩
theorem Only.of_below {B : Nat} {w w' : World} (h : Below w.heap.size w w') : Only B w w' := ⟨h.os, h.tape, h.output, h.size, fun k hk _ => h.block k hk⟩
theorem Only.below {B n : Nat} {w w' : World} (h : Only B w w') (h1 : n ≤ B) (h2 : n ≤ w.heap.size) : Below n w w' := ⟨h.os, h.tape, h.output, h.size, fun k hk => h.block k (by omega) (by omega)⟩
theorem Only.grown {B n : Nat} {w w' : World} {row : Option Nat} (hg : w.grownBy w' row) (hr : ∀ k, row = some k → n ≤ k) {a : World} (h : Only B a w) (hn : a.heap.size ≤ n) : Only B a w' :=
  ⟨hg.os.trans h.os, hg.tape.trans h.tape, hg.output.trans h.output, Nat.le_trans h.size hg.size, fun k hk hB => (hg.block k (Nat.lt_of_lt_of_le hk h.size) (fun e => by have := hr k e.symm; omega)).trans (h.block k hk hB)⟩
theorem Only.cell {B : Nat} {w w' : World} (h : Only B w w') {b off : Nat} {u : Value} (hc : w.cell? ⟨b, off, none⟩ = some u) (hn : b ≠ B) : w'.cell? ⟨b, off, none⟩ = some u :=
  (World.cell?_of_block (w := w) (h.block b (World.block_lt_of_cell? w _ hc) hn)).trans hc

/-- The choices: the number, and how many rows of choices are open. -/
structure Chs (w : World) (B n wt : Nat) : Prop where
  c0 : w.cell? ⟨B, 0, none⟩ = some (.int .i64 n)
  c1 : w.cell? ⟨B, 1, none⟩ = some (.int .i64 wt)
  z0 : w.frozen? ⟨B, 0, none⟩ = false
  z1 : w.frozen? ⟨B, 1, none⟩ = false

theorem Chs.lt {w : World} {B n wt : Nat} (h : Chs w B n wt) : B < w.heap.size := World.block_lt_of_cell? w _ h.c0
theorem Chs.keep {w w' : World} {B n wt : Nat} (h : Chs w B n wt) (hb : w'.heap[B]? = w.heap[B]?) : Chs w' B n wt :=
  ⟨(World.cell?_of_block (w := w) hb).trans h.c0, (World.cell?_of_block (w := w) hb).trans h.c1, (World.frozen?_of_block (w := w) hb).trans h.z0, (World.frozen?_of_block (w := w) hb).trans h.z1⟩
theorem Chs.below {w w' : World} {B n wt : Nat} (h : Chs w B n wt) (hb : Below w.heap.size w w') : Chs w' B n wt := h.keep (hb.block B h.lt)

set_option maxHeartbeats 1000000 in
theorem next_any (B n wt m : Nat) (w : World) (h : Chs w B n wt) (hm : 1 ≤ m) (hmw : m ≤ wt) (hwt : wt ≤ 2001) (hn : n ≤ 2001) :
    Calls Try.prog 58 #[.pointer (some ⟨B, 0, none⟩), .int .i64 m] w fun e w' => e = .returned (.int .i64 (n / (wt / m) % m : Nat)) ∧ Chs w' B n (wt / m) ∧ Only B w w' := by
  have hl := h.lt
  obtain ⟨c0, c1, z0, z1⟩ := h
  have hq1 : 1 ≤ wt / m := (Nat.le_div_iff_mul_le hm).2 (by omega)
  have hq2 : wt / m ≤ 2001 := Nat.le_trans (Nat.div_le_self _ _) hwt
  have hd2 : n / (wt / m) ≤ 2001 := Nat.le_trans (Nat.div_le_self _ _) hn
  have eq : (wt : Int) / (m : Int) = ((wt / m : Nat) : Int) := by simp
  generalize wt / m = q at eq hq1 hq2 hd2 ⊢
  have ed : (n : Int) / (q : Int) = ((n / q : Nat) : Int) := by simp
  generalize n / q = d at ed hd2 ⊢
  have er : (d : Int) % (m : Int) = ((d % m : Nat) : Int) := by simp
  generalize d % m = r at er ⊢
  go_enter Try.func58, Try.ntmps58
  go_wp2_with fail
  go_quiet (fail)
  go_wp2_with fail
  go_ret
  refine ⟨ret_int er, ?_, ?_⟩
  · have hs : Chs (w.setCell ⟨B, 1, none⟩ (.int .i64 q)) B n q := ⟨by simp [go_sem, c0], by simp [go_sem, c1], by simp [go_sem, z0], by simp [go_sem, z1]⟩
    exact ⟨by simpa [go_sem] using hs.c0, by simpa [go_sem] using hs.c1, by simpa [go_sem] using hs.z0, by simpa [go_sem] using hs.z1⟩
  · refine ⟨rfl, rfl, rfl, by simp [World.setCell], fun k hk hn => ?_⟩
    exact Below.heap_setCell w ⟨B, 1, none⟩ _ k hn

/-- .. and its block is new too, be it empty. -/
def IntOwn (B : Nat) (w : World) (v : Value) (l : List Int) : Prop := IntNew B w v l ∧ ∀ g, v.ownBlock = some g → B ≤ g ∧ g < w.heap.size
theorem owns_own {w : World} {base : Nat} {e : TypeId} {v : Value} {l : List Int} (h : w.ownsRow base e 1 v l.length (l.map (Value.int .i64))) : IntOwn base w v l := ⟨owns_int h, fun g hg => h.lt g hg⟩

theorem IntAt.only {B : Nat} {w w' : World} {v : Value} {l : List Int} {ao : Option Addr} {b off cap : Nat} (h : SlAt w 1 IntC v l ao b off cap) (ho : Only B w w') (hn : b ≠ B) : SlAt w' 1 IntC v l ao b off cap :=
  ⟨h.hv, h.ha, h.hn, fun k x hx => ho.cell (h.hc k x hx) hn⟩

theorem erase_take {l : List Int} {at' : Nat} (_h : at' < l.length) : l.eraseIdx at' = l.take at' ++ l.drop (at' + 1) := List.eraseIdx_eq_take_drop_succ ..

/-- What 'without' has gathered behind k rounds. -/
def wo (l : List Int) (at' k : Nat) : List Int := (l.take k).eraseIdx at'

theorem wo_skip {l : List Int} {at' k : Nat} {x : Int} (hx : l[k]? = some x) (h : k = at') : wo l at' (k + 1) = wo l at' k := by
  unfold wo
  rw [take_snoc hx]
  subst h
  have hk : k ≤ l.length := by have := (List.getElem?_eq_some_iff.1 hx).1; omega
  have hl : (l.take k).length = k := by simp; omega
  rw [List.eraseIdx_append_of_length_le (by omega), hl, List.eraseIdx_of_length_le (l := l.take k) (by omega), Nat.sub_self]
  simp

theorem wo_take {l : List Int} {at' k : Nat} {x : Int} (hx : l[k]? = some x) (h : k ≠ at') : wo l at' (k + 1) = wo l at' k ++ [x] := by
  unfold wo
  rw [take_snoc hx]
  have hk : k < l.length := (List.getElem?_eq_some_iff.1 hx).1
  have hl : (l.take k).length = k := by simp; omega
  by_cases hlt : at' < k
  · rw [List.eraseIdx_append_of_lt_length (by omega)]
  · rw [List.eraseIdx_append_of_length_le (by omega), hl, List.eraseIdx_of_length_le (l := l.take k) (by omega), List.eraseIdx_of_length_le (by simp; omega)]

theorem wo_done (l : List Int) (at' : Nat) : wo l at' l.length = l.eraseIdx at' := by unfold wo; rw [List.take_length]

set_option maxHeartbeats 1000000 in
theorem without_any (l : List Int) (hl : l.length ≤ 96) (at' : Nat) (v : Value) (w : World) (h : IntAt w v l) :
    Calls Try.prog 59 #[v, .int .i64 at'] w fun e w' => ∃ u, e = .returned u ∧ IntNew w.heap.size w' u (l.eraseIdx at') ∧ Below w.heap.size w w' := by
  obtain ⟨ao, b, off, cap, hv, ha, _, hc⟩ := h
  subst hv
  obtain ⟨i0, hi, hz0, hz1, hz2⟩ := info_parts Try.info3
  have HI : Hid (Try.prog.info? 3 = some i0 ∧ i0.zero = some (.int .i64 0) ∧ i0.size = 1 ∧ i0.bytes = 8) := ⟨hi, hz0, hz1, hz2⟩
  clear hi hz0 hz1 hz2
  have HC : Hid (∀ k x, l[k]? = some x → IntC w b (off + k * 1) x) := hc
  clear hc
  go_enter Try.func59, Try.ntmps59
  go_wp2_with fail
  go_loopw [5, 10] (fun u i wr => ∃ (k : Nat) (xs : List Int), k ≤ l.length ∧ i = .int .i64 k ∧ xs.length ≤ k ∧ Hid (wo l at' k = xs) ∧ wr.ownsRow w.heap.size 3 1 u xs.length (xs.map (Value.int .i64)) ∧ Below w.heap.size w wr) (fun _ i _ => l.length - (intOf i).toNat)
  case atStart => exact ⟨0, [], Nat.zero_le _, rfl, Nat.le_refl _, by unfold Hid wo; simp, World.ownsRow_nil _ _ _ _, Below.refl _ _⟩
  case round =>
    obtain ⟨k, xs, hk, rfl, hxk, hn, hown, hb⟩ := hrel
    have hsz := hb.size
    by_cases hlt : k < l.length
    · obtain ⟨x, hx⟩ := get_of_lt hlt
      obtain rfl := ha (ne_nil hlt)
      have c0 := intC_keeps _ _ _ _ _ hb (HC.out k x hx)
      unfold IntC at c0
      rw [Nat.mul_one] at c0
      have hbl := World.block_lt_of_cell? _ _ c0
      have HX : Hid (l[k]? = some x) := hx
      clear hx ha
      by_cases hat : k = at'
      · subst hat
        have hbe : ((k : Int) != (k : Int)) = false := by simp
        have HM : Hid (wo l k (k + 1) = xs) := (wo_skip HX.out rfl).trans hn.out
        clear hn
        go_wp2_with fail
        go_roundw
        case measure => simp [intOf]; omega
        case rel => exact ⟨k + 1, xs, by omega, by go_num, by omega, HM.out, hown, hb⟩
      · have hbe : ((k : Int) != (at' : Int)) = true := by rw [bne_iff_ne]; omega
        have HM : Hid (wo l at' (k + 1) = xs ++ [x]) := (wo_take HX.out hat).trans (by rw [hn.out])
        clear hn
        go_wp2_with (at_builtin; refine append_new _ rfl (.tmp 18) (.tmp 20) 37 rfl w.heap.size 3 i0 (.int .i64 0) 1 8 Try.underlying37 HI.out.1 HI.out.2.1 HI.out.2.2.1 HI.out.2.2.2 rfl (by decide) u5 xs.length (xs.map (Value.int .i64)) rfl (hown.alloc _) (some ⟨wr.heap.size, 0, none⟩) 1 1 [.int .i64 x] rfl (fun h => by cases h) rfl (fun ad had => by cases had; exact new_one rfl) (by simp [Value.oneCell']) (by unfold maxLen; omega) (by omega) (by simp; omega) ?_)
        intro u' w1 hown' hgrow _
        have hb' : Below w.heap.size w w1 := Below.grown (hb.alloc hsz _) hgrow (by simp; omega) (fun kk e => (hown.lt kk e).1)
        have HO : Hid (w1.ownsRow w.heap.size 3 1 u' (xs ++ [x]).length ((xs ++ [x]).map (Value.int .i64))) := own_snoc hown'
        clear hgrow hown hown'
        go_wp2_with fail
        go_roundw
        case measure => simp [intOf]; omega
        case rel => exact ⟨k + 1, xs ++ [x], by omega, by go_num, by simp; omega, HM.out, HO.out, hb'⟩
    · have hkl : k = l.length := by omega
      subst hkl
      have HF : Hid (l.eraseIdx at' = xs) := (wo_done l at').symm.trans hn.out
      clear hn ha
      go_wp2_with fail
      go_ret
      exact ⟨_, rfl, by rw [HF.out]; exact owns_int hown, hb⟩

end Go.Proofs.Ytbmlmplbhgahpaa
