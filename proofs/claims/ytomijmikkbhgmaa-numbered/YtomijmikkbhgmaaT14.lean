import Derived.Test.YtomijmikkbhgmaaT6
import Derived.Deep.QuietTactic
import Derived.BigQuiet
namespace Go.Proofs.Ytomijmikkbhgmaa

/-- What each read may read from, read by read. -/
def rdo (E : List Evt) : List Evt → List (List Int)
  | [] => []
  | x :: R => if x.kind == 0 then (-1 :: wrs E 0 x.loc) :: rdo E R else rdo E R

def plen : List (List Int) → Nat
  | [] => 1
  | o :: os => o.length * plen os

theorem plen_rdo (E R : List Evt) : plen (rdo E R) = prodR E R := by
  induction R with
  | nil => rfl
  | cons x R ih =>
    unfold rdo prodR
    cases x.kind == 0
    · simp [ih]
    · simp [plen, ih, Nat.add_comm]

/-- All ways to choose one of each list, the first list slowest. -/
def allF : List (List Int) → List (List Int)
  | [] => [[]]
  | o :: os => o.flatMap fun a => (allF os).map fun r => a :: r

theorem allF_len (os : List (List Int)) : (allF os).length = plen os := by
  induction os with
  | nil => rfl
  | cons o os ih =>
    unfold allF plen
    rw [← ih]
    induction o with
    | nil => simp
    | cons a o ih2 => rw [List.flatMap_cons, List.length_append, ih2, List.length_map, List.length_cons, Nat.add_mul]; omega

/-- The choices that a number stands for. -/
def chF (n : Nat) : List (List Int) → Nat → List Int
  | [], _ => []
  | o :: os, w => o.getD (n / (w / o.length) % o.length) 0 :: chF n os (w / o.length)

theorem plen_pos {os : List (List Int)} (h : ∀ o ∈ os, 1 ≤ o.length) : 1 ≤ plen os := by
  induction os with
  | nil => exact Nat.le_refl 1
  | cons o os ih =>
    have h1 := h o (List.mem_cons_self ..)
    have h2 := ih (fun x hx => h x (List.mem_cons_of_mem _ hx))
    have := Nat.mul_le_mul h1 h2
    unfold plen; omega

/-- An entry of lists of s entries each, laid one behind the other. -/
theorem flat_at {α β : Type} (f : α → List β) (s : Nat) (l : List α) (hf : ∀ x ∈ l, (f x).length = s) (k j : Nat) (x : α) (hx : l[k]? = some x) (hj : j < s) : (l.flatMap f)[k * s + j]? = (f x)[j]? := by
  induction l generalizing k with
  | nil => simp at hx
  | cons a l ih =>
    have ha := hf a (List.mem_cons_self ..)
    cases k with
    | zero => simp at hx; subst hx; rw [List.flatMap_cons, List.getElem?_append_left (by rw [ha]; omega)]; simp
    | succ k =>
      rw [List.flatMap_cons, List.getElem?_append_right (by rw [ha, Nat.add_mul]; omega), ha]
      rw [show (k + 1) * s + j - s = k * s + j by rw [Nat.add_mul]; omega]
      exact ih (fun x hx => hf x (List.mem_cons_of_mem _ hx)) k (by simpa using hx)

theorem mod_split (a m P : Nat) : a % (m * P) = (a / P % m) * P + a % P := by
  rw [Nat.mul_comm m P, Nat.mod_mul]
  rw [Nat.mul_comm P (a / P % m)]
  omega

theorem chF_at (n : Nat) (os : List (List Int)) (h : ∀ o ∈ os, 1 ≤ o.length) (R : Nat) (_hR : 1 ≤ R) : (allF os)[n / R % plen os]? = some (chF n os (plen os * R)) := by
  induction os with
  | nil => simp [allF, plen, chF, Nat.mod_one]
  | cons o os ih =>
    have h1 := h o (List.mem_cons_self ..)
    have hos := fun x hx => h x (List.mem_cons_of_mem o hx)
    have hP := plen_pos hos
    have hw : o.length * plen os * R / o.length = plen os * R := by rw [Nat.mul_assoc]; exact Nat.mul_div_cancel_left _ h1
    have hd : n / R / plen os = n / (plen os * R) := by rw [Nat.div_div_eq_div_mul, Nat.mul_comm]
    unfold plen chF
    rw [hw, mod_split, hd]
    have hlt : n / (plen os * R) % o.length < o.length := Nat.mod_lt _ h1
    unfold allF
    rw [flat_at _ (plen os) o (fun x _ => by rw [List.length_map, allF_len]) _ _ (o.getD (n / (plen os * R) % o.length) 0) (by rw [List.getD, List.getElem?_eq_getElem hlt]; rfl) (Nat.mod_lt _ hP)]
    rw [List.getElem?_map, ih hos]
    rfl

/-! orders of a list -/
def ordN : Nat → List Int → List (List Int)
  | 0, _ => [[]]
  | m + 1, l => (List.range l.length).flatMap fun i => (ordN m (l.eraseIdx i)).map fun r => l.getD i 0 :: r

theorem ordN_len (m : Nat) (l : List Int) (h : l.length = m) : (ordN m l).length = fac m := by
  induction m generalizing l with
  | zero => rfl
  | succ m ih =>
    have key : ∀ (k : Nat), k ≤ l.length → ((List.range k).flatMap fun i => (ordN m (l.eraseIdx i)).map fun r => l.getD i 0 :: r).length = k * fac m := by
      intro k hk
      induction k with
      | zero => simp
      | succ k ihk =>
        rw [List.range_succ, List.flatMap_append, List.length_append, ihk (by omega)]
        simp only [List.flatMap_cons, List.flatMap_nil, List.append_nil, List.length_map]
        rw [ih _ (by rw [List.length_eraseIdx, if_pos (by omega)]; omega), Nat.add_mul]; omega
    unfold ordN
    rw [key l.length (Nat.le_refl _), h]
    rfl

def chO (n : Nat) : Nat → List Int → Nat → List Int
  | 0, _, _ => []
  | m + 1, l, w => l.getD (n / (w / l.length) % l.length) 0 :: chO n m (l.eraseIdx (n / (w / l.length) % l.length)) (w / l.length)

theorem chO_at (n m : Nat) (l : List Int) (h : l.length = m) (R : Nat) (_hR : 1 ≤ R) : (ordN m l)[n / R % fac m]? = some (chO n m l (fac m * R)) := by
  induction m generalizing l with
  | zero => simp [ordN, fac, chO, Nat.mod_one]
  | succ m ih =>
    have h1 : 1 ≤ l.length := by omega
    have hw : (m + 1) * fac m * R / (m + 1) = fac m * R := by rw [Nat.mul_assoc]; exact Nat.mul_div_cancel_left _ (by omega)
    have hd : n / R / fac m = n / (fac m * R) := by rw [Nat.div_div_eq_div_mul, Nat.mul_comm]
    unfold fac chO
    rw [h, hw, mod_split, hd]
    have hlt : n / (fac m * R) % (m + 1) < m + 1 := Nat.mod_lt _ (by omega)
    have he : (l.eraseIdx (n / (fac m * R) % (m + 1))).length = m := by rw [List.length_eraseIdx, if_pos (by omega)]; omega
    unfold ordN
    rw [flat_at _ (fac m) (List.range l.length) (fun i hi => by
        have hi' : i < l.length := by simpa using hi
        rw [List.length_map, ordN_len _ _ (by rw [List.length_eraseIdx, if_pos hi']; omega)]) _ _ (n / (fac m * R) % (m + 1)) (by simp [h, hlt]) (Nat.mod_lt _ (fac_pos m))]
    rw [List.getElem?_map, ih _ he]
    rfl

/-! whole candidates -/
structure Exe where
  from' : List Int
  order : List (List Int)

def ords (E : List Evt) (j : Int) : List (List Int) := ordN (wrs E 0 j).length (wrs E 0 j)

def exs (E : List Evt) : List Exe :=
  (allF (rdo E E)).flatMap fun f => (ords E 0).flatMap fun a => (ords E 1).flatMap fun b => (ords E 2).map fun c => ⟨f, [a, b, c]⟩

/-- The candidate with a number, as the digits say. -/
def exN (E : List Evt) (n : Nat) : Exe :=
  ⟨chF n (rdo E E) (sizeN E), [chO n (wrs E 0 0).length (wrs E 0 0) (facL E 0), chO n (wrs E 0 1).length (wrs E 0 1) (facL E 1), chO n (wrs E 0 2).length (wrs E 0 2) (facL E 2)]⟩

theorem ords_len (E : List Evt) (j : Int) : (ords E j).length = fac (wrs E 0 j).length := ordN_len _ _ rfl

theorem flat_length {α β : Type} (f : α → List β) (s : Nat) (l : List α) (hf : ∀ x ∈ l, (f x).length = s) : (l.flatMap f).length = l.length * s := by
  induction l with
  | nil => simp
  | cons a l ih => rw [List.flatMap_cons, List.length_append, ih (fun x hx => hf x (List.mem_cons_of_mem _ hx)), hf a (List.mem_cons_self ..), List.length_cons, Nat.add_mul]; omega

theorem exs3_len (E : List Evt) (f : List Int) (a b : List Int) : ((ords E 2).map fun c => (⟨f, [a, b, c]⟩ : Exe)).length = facL E 2 := by rw [List.length_map, ords_len]; rfl
theorem exs2_len (E : List Evt) (f : List Int) (a : List Int) : ((ords E 1).flatMap fun b => (ords E 2).map fun c => (⟨f, [a, b, c]⟩ : Exe)).length = facL E 1 := by
  rw [flat_length _ (facL E 2) _ (fun b _ => exs3_len E f a b), ords_len]; rfl
theorem exs1_len (E : List Evt) (f : List Int) : ((ords E 0).flatMap fun a => (ords E 1).flatMap fun b => (ords E 2).map fun c => (⟨f, [a, b, c]⟩ : Exe)).length = facL E 0 := by
  rw [flat_length _ (facL E 1) _ (fun a _ => exs2_len E f a), ords_len]; rfl
theorem exs_len (E : List Evt) : (exs E).length = sizeN E := by
  unfold exs
  rw [flat_length _ (facL E 0) _ (fun f _ => exs1_len E f), allF_len, plen_rdo]; rfl

theorem rdo_pos (E R : List Evt) : ∀ o ∈ rdo E R, 1 ≤ o.length := by
  induction R with
  | nil => simp [rdo]
  | cons x R ih =>
    unfold rdo
    split
    · intro o ho
      rcases List.mem_cons.1 ho with rfl | h
      · simp
      · exact ih o h
    · exact ih

theorem exs_at (E : List Evt) (n : Nat) (hn : n < sizeN E) : (exs E)[n]? = some (exN E n) := by
  have p0 := facL_pos E 0; have p1 := facL_pos E 1; have p2 := facL_pos E 2
  have hF : (allF (rdo E E))[n / facL E 0]? = some (chF n (rdo E E) (sizeN E)) := by
    have := chF_at n (rdo E E) (rdo_pos E E) (facL E 0) p0
    rw [plen_rdo, ← sizeN_eq] at this
    rw [Nat.mod_eq_of_lt] at this
    · exact this
    · exact (Nat.div_lt_iff_lt_mul p0).2 (by rw [← sizeN_eq]; exact hn)
  have hA : (ords E 0)[n / facL E 1 % fac (wrs E 0 0).length]? = some (chO n (wrs E 0 0).length (wrs E 0 0) (facL E 0)) := chO_at n _ _ rfl (facL E 1) p1
  have hB : (ords E 1)[n / facL E 2 % fac (wrs E 0 1).length]? = some (chO n (wrs E 0 1).length (wrs E 0 1) (facL E 1)) := chO_at n _ _ rfl (facL E 2) p2
  have hC : (ords E 2)[n / 1 % fac (wrs E 0 2).length]? = some (chO n (wrs E 0 2).length (wrs E 0 2) (facL E 2)) := by
    have := chO_at n (wrs E 0 2).length (wrs E 0 2) rfl 1 (Nat.le_refl 1)
    rw [Nat.mul_one] at this
    exact this
  have s0 : facL E 0 = fac (wrs E 0 0).length * facL E 1 := rfl
  have s1 : facL E 1 = fac (wrs E 0 1).length * facL E 2 := rfl
  have s2 : facL E 2 = fac (wrs E 0 2).length := rfl
  have e0 : n = n / facL E 0 * facL E 0 + n % facL E 0 := by rw [Nat.mul_comm]; exact (Nat.div_add_mod n _).symm
  have e1 : n % facL E 0 = (n / facL E 1 % fac (wrs E 0 0).length) * facL E 1 + n % facL E 1 := by rw [s0]; exact mod_split _ _ _
  have e2 : n % facL E 1 = (n / facL E 2 % fac (wrs E 0 1).length) * facL E 2 + n % facL E 2 := by rw [s1]; exact mod_split _ _ _
  have e3 : n % facL E 2 = n / 1 % fac (wrs E 0 2).length := by rw [s2, Nat.div_one]
  generalize hy : exN E n = y
  unfold exs
  rw [e0, flat_at _ (facL E 0) _ (fun f _ => exs1_len E f) _ _ _ hF (Nat.mod_lt _ p0)]
  rw [e1, flat_at _ (facL E 1) _ (fun a _ => exs2_len E _ a) _ _ _ hA (Nat.mod_lt _ p1)]
  rw [e2, flat_at _ (facL E 2) _ (fun b _ => exs3_len E _ _ b) _ _ _ hB (Nat.mod_lt _ p2)]
  rw [List.getElem?_map, e3, hC, ← hy]
  rfl

/-- The document's own way to lay out the first part: one read more at the right. -/
theorem allF_step (acc : List (List Int)) (o : List Int) (os : List (List Int)) :
    (acc.flatMap fun a => (allF (o :: os)).map fun r => a ++ r) = ((acc.flatMap fun a => o.map fun x => a ++ [x]).flatMap fun b => (allF os).map fun r => b ++ r) := by
  rw [List.flatMap_assoc]
  congr 1
  funext a
  rw [show allF (o :: os) = o.flatMap (fun x => (allF os).map fun r => x :: r) from rfl, List.map_flatMap, List.flatMap_map]
  congr 1
  funext x
  rw [List.map_map]
  congr 1
  funext r
  simp

theorem allF_done (acc : List (List Int)) : (acc.flatMap fun a => (allF []).map fun r => a ++ r) = acc := by
  unfold allF
  induction acc with
  | nil => rfl
  | cons a acc ih => rw [List.flatMap_cons, ih]; simp

end Go.Proofs.Ytomijmikkbhgmaa

namespace Go.Proofs.Ytomijmikkbhgmaa
open Go.RowKit

/-- Nothing has turned but block B, and what is new. -/
structure Only (B : Nat) (w w' : World) : Prop where
  os : w'.os = w.os
  tape : w'.tape = w.tape
  output : w'.output = w.output
  size : w.heap.size ≤ w'.heap.size
  block : ∀ k, k < w.heap.size → k ≠ B → w'.heap[k]? = w.heap[k]?

theorem Only.refl (B : Nat) (w : World) : Only B w w := ⟨rfl, rfl, rfl, Nat.le_refl _, fun _ _ _ => rfl⟩
theorem Only.trans {B : Nat} {a b c : World} (h : Only B a b) (k : Only B b c) : Only B a c :=
  ⟨k.os.trans h.os, k.tape.trans h.tape, k.output.trans h.output, Nat.le_trans h.size k.size, fun i hi hn => (k.block i (Nat.lt_of_lt_of_le hi h.size) hn).trans (h.block i hi hn)⟩
theorem Only.of_below {B : Nat} {w w' : World} (h : Below w.heap.size w w') : Only B w w' := ⟨h.os, h.tape, h.output, h.size, fun k hk _ => h.block k hk⟩
theorem Only.below {B n : Nat} {w w' : World} (h : Only B w w') (h1 : n ≤ B) (h2 : n ≤ w.heap.size) : Below n w w' := ⟨h.os, h.tape, h.output, h.size, fun k hk => h.block k (by omega) (by omega)⟩
theorem Only.grown {B n : Nat} {w w' : World} {row : Option Nat} (hg : w.grownBy w' row) (hr : ∀ k, row = some k → n ≤ k) {a : World} (h : Only B a w) (hn : a.heap.size ≤ n) : Only B a w' :=
  ⟨hg.os.trans h.os, hg.tape.trans h.tape, hg.output.trans h.output, Nat.le_trans h.size hg.size, fun k hk hB => (hg.block k (Nat.lt_of_lt_of_le hk h.size) (fun e => by have := hr k e.symm; omega)).trans (h.block k hk hB)⟩
theorem Only.cell {B : Nat} {w w' : World} (h : Only B w w') {b off : Nat} {u : Value} (hc : w.cell? ⟨b, off, none⟩ = some u) (hn : b ≠ B) : w'.cell? ⟨b, off, none⟩ = some u :=
  (World.cell?_of_block (w := w) (h.block b (World.block_lt_of_cell? w _ hc) hn)).trans hc

/-- .. and its block is new too, be it empty. -/
def IntOwn (B : Nat) (w : World) (v : Value) (l : List Int) : Prop := IntNew B w v l ∧ ∀ g, v.ownBlock = some g → B ≤ g ∧ g < w.heap.size
theorem owns_own {w : World} {base : Nat} {e : TypeId} {v : Value} {l : List Int} (h : w.ownsRow base e 1 v l.length (l.map (Value.int .i64))) : IntOwn base w v l := ⟨owns_int h, fun g hg => h.lt g hg⟩

theorem IntAt.only {B : Nat} {w w' : World} {v : Value} {l : List Int} {ao : Option Addr} {b off cap : Nat} (h : SlAt w 1 IntC v l ao b off cap) (ho : Only B w w') (hn : b ≠ B) : SlAt w' 1 IntC v l ao b off cap :=
  ⟨h.hv, h.ha, h.hn, fun k x hx => ho.cell (h.hc k x hx) hn⟩

theorem erase_take {l : List Int} {at' : Nat} (_h : at' < l.length) : l.eraseIdx at' = l.take at' ++ l.drop (at' + 1) := List.eraseIdx_eq_take_drop_succ ..

end Go.Proofs.Ytomijmikkbhgmaa

namespace Go.Proofs.Ytomijmikkbhgmaa
open Go.RowKit

/-- The choices: the number, and how many rows of choices are open. -/
structure Chs (w : World) (B n wt : Nat) : Prop where
  c0 : w.cell? ⟨B, 0, none⟩ = some (.int .i64 n)
  c1 : w.cell? ⟨B, 1, none⟩ = some (.int .i64 wt)
  z0 : w.frozen? ⟨B, 0, none⟩ = false
  z1 : w.frozen? ⟨B, 1, none⟩ = false

theorem Chs.lt {w : World} {B n wt : Nat} (h : Chs w B n wt) : B < w.heap.size := World.block_lt_of_cell? w _ h.c0
theorem Chs.keep {w w' : World} {B n wt : Nat} (h : Chs w B n wt) (hb : w'.heap[B]? = w.heap[B]?) : Chs w' B n wt :=
  ⟨(World.cell?_of_block (w := w) hb).trans h.c0, (World.cell?_of_block (w := w) hb).trans h.c1, (World.frozen?_of_block (w := w) hb).trans h.z0, (World.frozen?_of_block (w := w) hb).trans h.z1⟩
theorem Chs.below {w w' : World} {B n wt : Nat} (h : Chs w B n wt) (hb : Below w.heap.size w w') : Chs w' B n wt := h.keep (hb.block B h.lt)

set_option maxHeartbeats 1000000 in
theorem next_any (B n wt m : Nat) (w : World) (h : Chs w B n wt) (hm : 1 ≤ m) (hmw : m ≤ wt) (hwt : wt ≤ 2001) (hn : n ≤ 2001) :
    Calls Try.prog 84 #[.pointer (some ⟨B, 0, none⟩), .int .i64 m] w fun e w' => e = .returned (.int .i64 (n / (wt / m) % m : Nat)) ∧ Chs w' B n (wt / m) ∧ Only B w w' := by
  have hl := h.lt
  obtain ⟨c0, c1, z0, z1⟩ := h
  have hq1 : 1 ≤ wt / m := (Nat.le_div_iff_mul_le hm).2 (by omega)
  have hq2 : wt / m ≤ 2001 := Nat.le_trans (Nat.div_le_self _ _) hwt
  have hd2 : n / (wt / m) ≤ 2001 := Nat.le_trans (Nat.div_le_self _ _) hn
  have eq : (wt : Int) / (m : Int) = ((wt / m : Nat) : Int) := by simp
  generalize wt / m = q at eq hq1 hq2 hd2 ⊢
  have ed : (n : Int) / (q : Int) = ((n / q : Nat) : Int) := by simp
  generalize n / q = d at ed hd2 ⊢
  have er : (d : Int) % (m : Int) = ((d % m : Nat) : Int) := by simp
  generalize d % m = r at er ⊢
  go_enter Try.func84, Try.ntmps84
  go_wp2_with fail
  go_quiet (fail)
  go_wp2_with fail
  go_ret
  refine ⟨ret_int er, ?_, ?_⟩
  · have hs : Chs (w.setCell ⟨B, 1, none⟩ (.int .i64 q)) B n q := ⟨by simp [go_sem, c0], by simp [go_sem, c1], by simp [go_sem, z0], by simp [go_sem, z1]⟩
    exact ⟨by simpa [go_sem] using hs.c0, by simpa [go_sem] using hs.c1, by simpa [go_sem] using hs.z0, by simpa [go_sem] using hs.z1⟩
  · refine ⟨rfl, rfl, rfl, by simp [World.setCell], fun k hk hn => ?_⟩
    exact Below.heap_setCell w ⟨B, 1, none⟩ _ k hn

/-- What 'without' has gathered behind k rounds. -/
def wo (l : List Int) (at' k : Nat) : List Int := (l.take k).eraseIdx at'

theorem wo_skip {l : List Int} {at' k : Nat} {x : Int} (hx : l[k]? = some x) (h : k = at') : wo l at' (k + 1) = wo l at' k := by
  unfold wo
  rw [take_snoc hx]
  subst h
  have hk : k ≤ l.length := by have := (List.getElem?_eq_some_iff.1 hx).1; omega
  have hl : (l.take k).length = k := by simp; omega
  rw [List.eraseIdx_append_of_length_le (by omega), hl, List.eraseIdx_of_length_le (l := l.take k) (by omega), Nat.sub_self]
  simp

theorem wo_take {l : List Int} {at' k : Nat} {x : Int} (hx : l[k]? = some x) (h : k ≠ at') : wo l at' (k + 1) = wo l at' k ++ [x] := by
  unfold wo
  rw [take_snoc hx]
  have hk : k < l.length := (List.getElem?_eq_some_iff.1 hx).1
  have hl : (l.take k).length = k := by simp; omega
  by_cases hlt : at' < k
  · rw [List.eraseIdx_append_of_lt_length (by omega)]
  · rw [List.eraseIdx_append_of_length_le (by omega), hl, List.eraseIdx_of_length_le (l := l.take k) (by omega), List.eraseIdx_of_length_le (by simp; omega)]

theorem wo_done (l : List Int) (at' : Nat) : wo l at' l.length = l.eraseIdx at' := by unfold wo; rw [List.take_length]

set_option maxHeartbeats 1000000 in
theorem without_any (l : List Int) (hl : l.length ≤ 96) (at' : Nat) (v : Value) (w : World) (h : IntAt w v l) :
    Calls Try.prog 85 #[v, .int .i64 at'] w fun e w' => ∃ u, e = .returned u ∧ IntNew w.heap.size w' u (l.eraseIdx at') ∧ Below w.heap.size w w' := by
  obtain ⟨ao, b, off, cap, hv, ha, _, hc⟩ := h
  subst hv
  obtain ⟨i0, hi, hz0, hz1, hz2⟩ := info_parts Try.info3
  have HI : Hid (Try.prog.info? 3 = some i0 ∧ i0.zero = some (.int .i64 0) ∧ i0.size = 1 ∧ i0.bytes = 8) := ⟨hi, hz0, hz1, hz2⟩
  clear hi hz0 hz1 hz2
  have HC : Hid (∀ k x, l[k]? = some x → IntC w b (off + k * 1) x) := hc
  clear hc
  go_enter Try.func85, Try.ntmps85
  go_wp2_with fail
  go_loopw [5, 10] (fun u i wr => ∃ (k : Nat) (xs : List Int), k ≤ l.length ∧ i = .int .i64 k ∧ xs.length ≤ k ∧ Hid (wo l at' k = xs) ∧ wr.ownsRow w.heap.size 3 1 u xs.length (xs.map (Value.int .i64)) ∧ Below w.heap.size w wr) (fun _ i _ => l.length - (intOf i).toNat)
  case atStart => exact ⟨0, [], Nat.zero_le _, rfl, Nat.le_refl _, by unfold Hid wo; simp, World.ownsRow_nil _ _ _ _, Below.refl _ _⟩
  case round =>
    obtain ⟨k, xs, hk, rfl, hxk, hn, hown, hb⟩ := hrel
    have hsz := hb.size
    by_cases hlt : k < l.length
    · obtain ⟨x, hx⟩ := get_of_lt hlt
      obtain rfl := ha (ne_nil hlt)
      have c0 := intC_keeps _ _ _ _ _ hb (HC.out k x hx)
      unfold IntC at c0
      rw [Nat.mul_one] at c0
      have hbl := World.block_lt_of_cell? _ _ c0
      have HX : Hid (l[k]? = some x) := hx
      clear hx ha
      by_cases hat : k = at'
      · subst hat
        have hbe : ((k : Int) != (k : Int)) = false := by simp
        have HM : Hid (wo l k (k + 1) = xs) := (wo_skip HX.out rfl).trans hn.out
        clear hn
        go_wp2_with fail
        go_roundw
        case measure => simp [intOf]; omega
        case rel => exact ⟨k + 1, xs, by omega, by go_num, by omega, HM.out, hown, hb⟩
      · have hbe : ((k : Int) != (at' : Int)) = true := by rw [bne_iff_ne]; omega
        have HM : Hid (wo l at' (k + 1) = xs ++ [x]) := (wo_take HX.out hat).trans (by rw [hn.out])
        clear hn
        go_wp2_with (at_builtin; refine append_new _ rfl (.tmp 18) (.tmp 20) 37 rfl w.heap.size 3 i0 (.int .i64 0) 1 8 Try.underlying37 HI.out.1 HI.out.2.1 HI.out.2.2.1 HI.out.2.2.2 rfl (by decide) u5 xs.length (xs.map (Value.int .i64)) rfl (hown.alloc _) (some ⟨wr.heap.size, 0, none⟩) 1 1 [.int .i64 x] rfl (fun h => by cases h) rfl (fun ad had => by cases had; exact new_one rfl) (by simp [Value.oneCell']) (by unfold maxLen; omega) (by omega) (by simp; omega) ?_)
        intro u' w1 hown' hgrow _
        have hb' : Below w.heap.size w w1 := Below.grown (hb.alloc hsz _) hgrow (by simp; omega) (fun kk e => (hown.lt kk e).1)
        have HO : Hid (w1.ownsRow w.heap.size 3 1 u' (xs ++ [x]).length ((xs ++ [x]).map (Value.int .i64))) := own_snoc hown'
        clear hgrow hown hown'
        go_wp2_with fail
        go_roundw
        case measure => simp [intOf]; omega
        case rel => exact ⟨k + 1, xs ++ [x], by omega, by go_num, by simp; omega, HM.out, HO.out, hb'⟩
    · have hkl : k = l.length := by omega
      subst hkl
      have HF : Hid (l.eraseIdx at' = xs) := (wo_done l at').symm.trans hn.out
      clear hn ha
      go_wp2_with fail
      go_ret
      exact ⟨_, rfl, by rw [HF.out]; exact owns_int hown, hb⟩

end Go.Proofs.Ytomijmikkbhgmaa

namespace Go.Proofs.Ytomijmikkbhgmaa
open Go.RowKit

/-- What is left to choose of the weight. -/
theorem chF_cons (n : Nat) (o : List Int) (os : List (List Int)) (wt : Nat) : chF n (o :: os) wt = o.getD (n / (wt / o.length) % o.length) 0 :: chF n os (wt / o.length) := rfl

theorem rdo_hit {E : List Evt} {x : Evt} (h : (x.kind == 0) = true) (R : List Evt) : rdo E (x :: R) = (-1 :: wrs E 0 x.loc) :: rdo E R := by rw [rdo, if_pos h]
theorem rdo_mis {E : List Evt} {x : Evt} (h : (x.kind == 0) = false) (R : List Evt) : rdo E (x :: R) = rdo E R := by rw [rdo, if_neg (by simp [h])]

set_option maxHeartbeats 2000000 in
theorem chooseFrom_any (E : List Evt) (hE : E.length ≤ 96) (v : Value) (w0 w : World) (h : Ev4At w0 v E) (hw : Below w0.heap.size w0 w) (B n wt R : Nat) (hB : w0.heap.size ≤ B) (hc : Chs w B n wt) (hwt : wt = plen (rdo E E) * R) (hR : 1 ≤ R) (hw2 : wt ≤ 2001) (hn2 : n ≤ 2001) :
    Calls Try.prog 69 #[.pointer (some ⟨B, 0, none⟩), v] w fun e w' => ∃ u, e = .returned u ∧ IntNew w.heap.size w' u (chF n (rdo E E) wt) ∧ Chs w' B n R ∧ Only B w w' := by
  have HH : Hid (Ev4At w0 v E) := h
  obtain ⟨ao, b, off, cap, hv, ha, _, hcc⟩ := h
  subst hv
  obtain ⟨i0, hi, hz0, hz1, hz2⟩ := info_parts Try.info3
  have HI : Hid (Try.prog.info? 3 = some i0 ∧ i0.zero = some (.int .i64 0) ∧ i0.size = 1 ∧ i0.bytes = 8) := ⟨hi, hz0, hz1, hz2⟩
  clear hi hz0 hz1 hz2
  have HC : Hid (∀ k x, E[k]? = some x → Ev4C w0 b (off + k * 4) x) := hcc
  clear hcc
  have hBl := hc.lt
  have HCH : Hid (Chs w B n wt) := hc
  generalize hL : chF n (rdo E E) wt = L
  have HL : Hid (chF n (rdo E E) wt = L) := hL
  have HWT : Hid (wt = plen (rdo E E) * R) := hwt
  clear hL hwt hc
  go_enter Try.func69, Try.ntmps69
  go_wp2_with fail
  go_loopw [5, 12] (fun u i wr => ∃ (k : Nat) (xs : List Int) (wk : Nat), k ≤ E.length ∧ i = .int .i64 k ∧ xs.length ≤ k ∧ Hid (L = xs ++ chF n (rdo E (E.drop k)) wk) ∧ Hid (wk = plen (rdo E (E.drop k)) * R) ∧ wk ≤ 2001 ∧ wr.ownsRow w.heap.size 3 1 u xs.length (xs.map (Value.int .i64)) ∧ Chs wr B n wk ∧ Only B w wr) (fun _ i _ => E.length - (intOf i).toNat)
  case atStart => exact ⟨0, [], wt, Nat.zero_le _, rfl, Nat.le_refl _, HL.out.symm, HWT.out, hw2, World.ownsRow_nil _ _ _ _, HCH.out, Only.refl _ _⟩
  case round =>
    obtain ⟨k, xs, wk, hk, rfl, hxk, hn, hwk, hwk2, hown, hch, ho⟩ := hrel
    have hsz := ho.size
    have hbw : Below w0.heap.size w0 wr := hw.trans (ho.below hB hw.size)
    have hchlt := hch.lt
    by_cases hlt : k < E.length
    · obtain ⟨x, hx⟩ := get_of_lt hlt
      obtain rfl := ha (ne_nil hlt)
      obtain ⟨c0, c1, c2, c3⟩ := ev4C_keeps _ _ _ _ _ hbw (HC.out k x hx)
      have hbl := World.block_lt_of_cell? _ _ c0
      have HN : Hid (L = xs ++ chF n (rdo E (x :: E.drop (k + 1))) wk) := by rw [← drop_cons hx]; exact hn
      have HK : Hid (wk = plen (rdo E (x :: E.drop (k + 1))) * R) := by rw [← drop_cons hx]; exact hwk
      have HCK : Hid (Chs wr B n wk) := hch
      have HO : Hid (Only B w wr) := ho
      clear hn hwk hx ha hch ho
      cases h1 : x.kind == 0
      · have HN1 : Hid (L = xs ++ chF n (rdo E (E.drop (k + 1))) wk) := HN.out.trans (by rw [rdo_mis h1])
        have HK1 : Hid (wk = plen (rdo E (E.drop (k + 1))) * R) := HK.out.trans (by rw [rdo_mis h1])
        go_wp2_with fail
        go_roundw
        case measure => simp [intOf]; omega
        case rel => exact ⟨k + 1, xs, wk, by omega, by go_num, by omega, HN1.out, HK1.out, hwk2, hown.alloc _, HCK.out.below (below_alloc _ _), HO.out.trans (Only.of_below (below_alloc _ _))⟩
      · have hwl := wrs_len E 0 x.loc
        have HN1 : Hid (L = xs ++ chF n ((-1 :: wrs E 0 x.loc) :: rdo E (E.drop (k + 1))) wk) := HN.out.trans (by rw [rdo_hit h1])
        have HK1 : Hid (wk = (-1 :: wrs E 0 x.loc).length * (plen (rdo E (E.drop (k + 1))) * R)) := HK.out.trans (by rw [rdo_hit h1, plen, Nat.mul_assoc])
        generalize hO : -1 :: wrs E 0 x.loc = O at HN1 HK1
        have HOO : Hid (-1 :: wrs E 0 x.loc = O) := hO
        have hOl : 1 ≤ O.length ∧ O.length ≤ 97 := by rw [← hO]; simp; omega
        obtain ⟨hO1, hO2⟩ := hOl
        clear hO hwl HN HK
        have hP := plen_pos (rdo_pos E (E.drop (k + 1)))
        have hPR : 1 ≤ plen (rdo E (E.drop (k + 1))) * R := Nat.mul_le_mul hP hR
        have HQ : Hid (wk / O.length = plen (rdo E (E.drop (k + 1))) * R) := by unfold Hid; rw [HK1.out]; exact Nat.mul_div_cancel_left _ hO1
        have hmw : O.length ≤ wk := by rw [HK1.out]; exact Nat.le_mul_of_pos_right _ hPR
        have hat : n / (wk / O.length) % O.length < O.length := Nat.mod_lt _ hO1
        obtain ⟨y, hy⟩ := get_of_lt hat
        have HN2 : Hid (L = (xs ++ [y]) ++ chF n (rdo E (E.drop (k + 1))) (wk / O.length)) := HN1.out.trans (by rw [chF_cons, List.getD, hy]; simp)
        have hwk3 : wk / O.length ≤ 2001 := Nat.le_trans (Nat.div_le_self _ _) hwk2
        generalize hr : n / (wk / O.length) % O.length = r at hat hy
        have HR : Hid (n / (wk / O.length) % O.length = r) := hr
        have HY : Hid (O[r]? = some y) := hy
        clear hr hy hP hPR
        go_wp2_with fail
        refine (sources_any E hE x.loc _ _ (HH.out.keep (below_more hbw (below_alloc _ _)))).mono ?_
        rw [HOO.out]
        rintro e w3 ⟨u2, rfl, hu2, hb3⟩
        obtain ⟨ao4, b4, off4, cap4, ⟨hv4, ha4, _, hc4⟩, hb4⟩ := hu2
        subst hv4
        obtain rfl := ha4 (ne_nil (by omega : 0 < O.length))
        simp only [World.size_alloc] at hb4
        have hown3 := own_keep (hown.alloc _) hb3
        have hC3 := (HCK.out.below (below_alloc _ _)).below hb3
        have HO3 : Hid (Only B w w3) := HO.out.trans (Only.of_below (below_more (below_alloc _ _) hb3))
        have hap4 : ∀ g, u5.ownBlock = some g → g ≠ b4 := fun g hg => by have := (hown.lt g hg).2; omega
        have hs3 : wr.heap.size + 1 ≤ w3.heap.size := by have := hb3.size; simpa using this
        have HY4 : Hid (w3.cell? ⟨b4, off4 + r, none⟩ = some (.int .i64 y)) := by
          have := hc4 r y HY.out; unfold IntC at this; rwa [Nat.mul_one] at this
        clear hb3 hc4 ha4 hown c0 c1 c2 c3 HCK HO
        go_wp2_with fail
        refine (next_any B n wk O.length _ hC3 hO1 hmw hwk2 hn2).mono ?_
        rw [HR.out]
        rintro e w4 ⟨rfl, hC4, ho4⟩
        have hnB : ∀ g, u5.ownBlock = some g → g ≠ B := fun g hg => by have := (hown3.lt g hg).1; omega
        have hown4 : w4.ownsRow w.heap.size 3 1 u5 xs.length (xs.map (Value.int .i64)) := by
          refine ⟨hown3.1, ?_⟩
          rcases hown3.2 with h2 | ⟨g, cap, cur, hv, hg, hh, r⟩
          · exact Or.inl h2
          · exact Or.inr ⟨g, cap, cur, hv, hg, by rw [ho4.block g (Array.getElem?_eq_some_iff.1 hh).1 (hnB g (by rw [hv]; rfl))]; exact hh, r⟩
        have y4 := ho4.cell HY4.out (by omega)
        have hl4 := World.block_lt_of_cell? _ _ y4
        have hs4 := ho4.size
        have HO4 : Hid (Only B w w4) := HO3.out.trans ho4
        have HC4 : Hid (Chs w4 B n (wk / O.length)) := hC4
        have hrI : (r : Int) < (O.length : Int) := by omega
        clear hown3 hC3 HO3 ho4 hC4 HY4
        go_wp2_with (at_builtin; refine append_new _ rfl (.tmp 27) (.tmp 32) 37 rfl w.heap.size 3 i0 (.int .i64 0) 1 8 Try.underlying37 HI.out.1 HI.out.2.1 HI.out.2.2.1 HI.out.2.2.2 rfl (by decide) u5 xs.length (xs.map (Value.int .i64)) rfl (hown4.alloc _) (some ⟨w4.heap.size, 0, none⟩) 1 1 [.int .i64 y] rfl (fun h => by cases h) rfl (fun ad had => by cases had; exact new_one rfl) (by simp [Value.oneCell']) (by unfold maxLen; omega) (by omega) (by simp; omega) ?_)
        intro u' w5 hown' hgrow _
        have HO5 : Hid (Only B w w5) := Only.grown (n := w.heap.size) hgrow (fun kk e => (hown4.lt kk e).1) (HO4.out.trans (Only.of_below (below_alloc _ _))) (Nat.le_refl _)
        have HC5 : Hid (Chs w5 B n (wk / O.length)) := (HC4.out.below (below_alloc _ _)).keep (hgrow.block B (by have := HC4.out.lt; simp; omega) (fun e => hnB B e.symm rfl))
        have HW5 : Hid (w5.ownsRow w.heap.size 3 1 u' (xs ++ [y]).length ((xs ++ [y]).map (Value.int .i64))) := own_snoc hown'
        clear hgrow hown4 hown' HO4 HC4 y4
        go_wp2_with fail
        go_roundw
        case measure => simp [intOf]; omega
        case rel => exact ⟨k + 1, xs ++ [y], wk / O.length, by omega, by go_num, by simp; omega, HN2.out, HQ.out, hwk3, HW5.out, HC5.out, HO5.out⟩
    · have HF : Hid (L = xs) := hn.out.trans (by rw [drop_nil hlt]; simp [rdo, chF])
      have hRk : wk = R := hwk.out.trans (by rw [drop_nil hlt]; simp [rdo, plen])
      subst hRk
      have HCK : Hid (Chs wr B n wk) := hch
      have HO : Hid (Only B w wr) := ho
      clear hn hwk ha hch ho
      go_wp2_with fail
      go_ret
      exact ⟨_, rfl, by rw [HF.out]; exact owns_int hown, HCK.out, HO.out⟩

end Go.Proofs.Ytomijmikkbhgmaa
