import Derived.Test.YtomijmikkbhgmabT6
import Derived.Test.YtomijmikkbhgmabT2
import Derived.Deep.QuietTactic
import Derived.BigQuiet
import Derived.Test.YtomijmikkbhgmabLt
import Derived.Deep.RegionWith
namespace Go.Proofs.Ytomijmikkbhgmab

/-- What each read may read from, read by read. -/
def rdo (E : List Evt) : List Evt → List (List Int)
  | [] => []
  | x :: R => if x.kind == 0 then (-1 :: wrs E 0 x.loc) :: rdo E R else rdo E R

def plen : List (List Int) → Nat
  | [] => 1
  | o :: os => o.length * plen os

theorem plen_rdo (E R : List Evt) : plen (rdo E R) = prodR E R := by
  induction R with
  | nil => rfl
  | cons x R ih =>
    unfold rdo prodR
    cases x.kind == 0
    · simp [ih]
    · simp [plen, ih, Nat.add_comm]

/-- All ways to choose one of each list, the first list slowest. -/
def allF : List (List Int) → List (List Int)
  | [] => [[]]
  | o :: os => o.flatMap fun a => (allF os).map fun r => a :: r

theorem allF_len (os : List (List Int)) : (allF os).length = plen os := by
  induction os with
  | nil => rfl
  | cons o os ih =>
    unfold allF plen
    rw [← ih]
    induction o with
    | nil => simp
    | cons a o ih2 => rw [List.flatMap_cons, List.length_append, ih2, List.length_map, List.length_cons, Nat.add_mul]; omega

/-- The choices that a number stands for. -/
def chF (n : Nat) : List (List Int) → Nat → List Int
  | [], _ => []
  | o :: os, w => o.getD (n / (w / o.length) % o.length) 0 :: chF n os (w / o.length)

theorem plen_pos {os : List (List Int)} (h : ∀ o ∈ os, 1 ≤ o.length) : 1 ≤ plen os := by
  induction os with
  | nil => exact Nat.le_refl 1
  | cons o os ih =>
    have h1 := h o (List.mem_cons_self ..)
    have h2 := ih (fun x hx => h x (List.mem_cons_of_mem _ hx))
    have := Nat.mul_le_mul h1 h2
    unfold plen; omega

/-- An entry of lists of s entries each, laid one behind the other. -/
theorem flat_at {α β : Type} (f : α → List β) (s : Nat) (l : List α) (hf : ∀ x ∈ l, (f x).length = s) (k j : Nat) (x : α) (hx : l[k]? = some x) (hj : j < s) : (l.flatMap f)[k * s + j]? = (f x)[j]? := by
  induction l generalizing k with
  | nil => simp at hx
  | cons a l ih =>
    have ha := hf a (List.mem_cons_self ..)
    cases k with
    | zero => simp at hx; subst hx; rw [List.flatMap_cons, List.getElem?_append_left (by rw [ha]; omega)]; simp
    | succ k =>
      rw [List.flatMap_cons, List.getElem?_append_right (by rw [ha, Nat.add_mul]; omega), ha]
      rw [show (k + 1) * s + j - s = k * s + j by rw [Nat.add_mul]; omega]
      exact ih (fun x hx => hf x (List.mem_cons_of_mem _ hx)) k (by simpa using hx)

theorem mod_split (a m P : Nat) : a % (m * P) = (a / P % m) * P + a % P := by
  rw [Nat.mul_comm m P, Nat.mod_mul]
  rw [Nat.mul_comm P (a / P % m)]
  omega

theorem chF_at (n : Nat) (os : List (List Int)) (h : ∀ o ∈ os, 1 ≤ o.length) (R : Nat) (_hR : 1 ≤ R) : (allF os)[n / R % plen os]? = some (chF n os (plen os * R)) := by
  induction os with
  | nil => simp [allF, plen, chF, Nat.mod_one]
  | cons o os ih =>
    have h1 := h o (List.mem_cons_self ..)
    have hos := fun x hx => h x (List.mem_cons_of_mem o hx)
    have hP := plen_pos hos
    have hw : o.length * plen os * R / o.length = plen os * R := by rw [Nat.mul_assoc]; exact Nat.mul_div_cancel_left _ h1
    have hd : n / R / plen os = n / (plen os * R) := by rw [Nat.div_div_eq_div_mul, Nat.mul_comm]
    unfold plen chF
    rw [hw, mod_split, hd]
    have hlt : n / (plen os * R) % o.length < o.length := Nat.mod_lt _ h1
    unfold allF
    rw [flat_at _ (plen os) o (fun x _ => by rw [List.length_map, allF_len]) _ _ (o.getD (n / (plen os * R) % o.length) 0) (by rw [List.getD, List.getElem?_eq_getElem hlt]; rfl) (Nat.mod_lt _ hP)]
    rw [List.getElem?_map, ih hos]
    rfl

/-! orders of a list -/
def ordN : Nat → List Int → List (List Int)
  | 0, _ => [[]]
  | m + 1, l => (List.range l.length).flatMap fun i => (ordN m (l.eraseIdx i)).map fun r => l.getD i 0 :: r

theorem ordN_len (m : Nat) (l : List Int) (h : l.length = m) : (ordN m l).length = fac m := by
  induction m generalizing l with
  | zero => rfl
  | succ m ih =>
    have key : ∀ (k : Nat), k ≤ l.length → ((List.range k).flatMap fun i => (ordN m (l.eraseIdx i)).map fun r => l.getD i 0 :: r).length = k * fac m := by
      intro k hk
      induction k with
      | zero => simp
      | succ k ihk =>
        rw [List.range_succ, List.flatMap_append, List.length_append, ihk (by omega)]
        simp only [List.flatMap_cons, List.flatMap_nil, List.append_nil, List.length_map]
        rw [ih _ (by rw [List.length_eraseIdx, if_pos (by omega)]; omega), Nat.add_mul]; omega
    unfold ordN
    rw [key l.length (Nat.le_refl _), h]
    rfl

def chO (n : Nat) : Nat → List Int → Nat → List Int
  | 0, _, _ => []
  | m + 1, l, w => l.getD (n / (w / l.length) % l.length) 0 :: chO n m (l.eraseIdx (n / (w / l.length) % l.length)) (w / l.length)

theorem chO_at (n m : Nat) (l : List Int) (h : l.length = m) (R : Nat) (_hR : 1 ≤ R) : (ordN m l)[n / R % fac m]? = some (chO n m l (fac m * R)) := by
  induction m generalizing l with
  | zero => simp [ordN, fac, chO, Nat.mod_one]
  | succ m ih =>
    have h1 : 1 ≤ l.length := by omega
    have hw : (m + 1) * fac m * R / (m + 1) = fac m * R := by rw [Nat.mul_assoc]; exact Nat.mul_div_cancel_left _ (by omega)
    have hd : n / R / fac m = n / (fac m * R) := by rw [Nat.div_div_eq_div_mul, Nat.mul_comm]
    unfold fac chO
    rw [h, hw, mod_split, hd]
    have hlt : n / (fac m * R) % (m + 1) < m + 1 := Nat.mod_lt _ (by omega)
    have he : (l.eraseIdx (n / (fac m * R) % (m + 1))).length = m := by rw [List.length_eraseIdx, if_pos (by omega)]; omega
    unfold ordN
    rw [flat_at _ (fac m) (List.range l.length) (fun i hi => by
        have hi' : i < l.length := by simpa using hi
        rw [List.length_map, ordN_len _ _ (by rw [List.length_eraseIdx, if_pos hi']; omega)]) _ _ (n / (fac m * R) % (m + 1)) (by simp [h, hlt]) (Nat.mod_lt _ (fac_pos m))]
    rw [List.getElem?_map, ih _ he]
    rfl

/-! whole candidates -/
structure Exe where
  from' : List Int
  order : List (List Int)

def ords (E : List Evt) (j : Int) : List (List Int) := ordN (wrs E 0 j).length (wrs E 0 j)

def exs (E : List Evt) : List Exe :=
  (allF (rdo E E)).flatMap fun f => (ords E 0).flatMap fun a => (ords E 1).flatMap fun b => (ords E 2).map fun c => ⟨f, [a, b, c]⟩

/-- The candidate with a number, as the digits say. -/
def exN (E : List Evt) (n : Nat) : Exe :=
  ⟨chF n (rdo E E) (sizeN E), [chO n (wrs E 0 0).length (wrs E 0 0) (facL E 0), chO n (wrs E 0 1).length (wrs E 0 1) (facL E 1), chO n (wrs E 0 2).length (wrs E 0 2) (facL E 2)]⟩

theorem ords_len (E : List Evt) (j : Int) : (ords E j).length = fac (wrs E 0 j).length := ordN_len _ _ rfl

theorem flat_length {α β : Type} (f : α → List β) (s : Nat) (l : List α) (hf : ∀ x ∈ l, (f x).length = s) : (l.flatMap f).length = l.length * s := by
  induction l with
  | nil => simp
  | cons a l ih => rw [List.flatMap_cons, List.length_append, ih (fun x hx => hf x (List.mem_cons_of_mem _ hx)), hf a (List.mem_cons_self ..), List.length_cons, Nat.add_mul]; omega

theorem exs3_len (E : List Evt) (f : List Int) (a b : List Int) : ((ords E 2).map fun c => (⟨f, [a, b, c]⟩ : Exe)).length = facL E 2 := by rw [List.length_map, ords_len]; rfl
theorem exs2_len (E : List Evt) (f : List Int) (a : List Int) : ((ords E 1).flatMap fun b => (ords E 2).map fun c => (⟨f, [a, b, c]⟩ : Exe)).length = facL E 1 := by
  rw [flat_length _ (facL E 2) _ (fun b _ => exs3_len E f a b), ords_len]; rfl
theorem exs1_len (E : List Evt) (f : List Int) : ((ords E 0).flatMap fun a => (ords E 1).flatMap fun b => (ords E 2).map fun c => (⟨f, [a, b, c]⟩ : Exe)).length = facL E 0 := by
  rw [flat_length _ (facL E 1) _ (fun a _ => exs2_len E f a), ords_len]; rfl
theorem exs_len (E : List Evt) : (exs E).length = sizeN E := by
  unfold exs
  rw [flat_length _ (facL E 0) _ (fun f _ => exs1_len E f), allF_len, plen_rdo]; rfl

theorem rdo_pos (E R : List Evt) : ∀ o ∈ rdo E R, 1 ≤ o.length := by
  induction R with
  | nil => simp [rdo]
  | cons x R ih =>
    unfold rdo
    split
    · intro o ho
      rcases List.mem_cons.1 ho with rfl | h
      · simp
      · exact ih o h
    · exact ih

theorem exs_at (E : List Evt) (n : Nat) (hn : n < sizeN E) : (exs E)[n]? = some (exN E n) := by
  have p0 := facL_pos E 0; have p1 := facL_pos E 1; have p2 := facL_pos E 2
  have hF : (allF (rdo E E))[n / facL E 0]? = some (chF n (rdo E E) (sizeN E)) := by
    have := chF_at n (rdo E E) (rdo_pos E E) (facL E 0) p0
    rw [plen_rdo, ← sizeN_eq] at this
    rw [Nat.mod_eq_of_lt] at this
    · exact this
    · exact (Nat.div_lt_iff_lt_mul p0).2 (by rw [← sizeN_eq]; exact hn)
  have hA : (ords E 0)[n / facL E 1 % fac (wrs E 0 0).length]? = some (chO n (wrs E 0 0).length (wrs E 0 0) (facL E 0)) := chO_at n _ _ rfl (facL E 1) p1
  have hB : (ords E 1)[n / facL E 2 % fac (wrs E 0 1).length]? = some (chO n (wrs E 0 1).length (wrs E 0 1) (facL E 1)) := chO_at n _ _ rfl (facL E 2) p2
  have hC : (ords E 2)[n / 1 % fac (wrs E 0 2).length]? = some (chO n (wrs E 0 2).length (wrs E 0 2) (facL E 2)) := by
    have := chO_at n (wrs E 0 2).length (wrs E 0 2) rfl 1 (Nat.le_refl 1)
    rw [Nat.mul_one] at this
    exact this
  have s0 : facL E 0 = fac (wrs E 0 0).length * facL E 1 := rfl
  have s1 : facL E 1 = fac (wrs E 0 1).length * facL E 2 := rfl
  have s2 : facL E 2 = fac (wrs E 0 2).length := rfl
  have e0 : n = n / facL E 0 * facL E 0 + n % facL E 0 := by rw [Nat.mul_comm]; exact (Nat.div_add_mod n _).symm
  have e1 : n % facL E 0 = (n / facL E 1 % fac (wrs E 0 0).length) * facL E 1 + n % facL E 1 := by rw [s0]; exact mod_split _ _ _
  have e2 : n % facL E 1 = (n / facL E 2 % fac (wrs E 0 1).length) * facL E 2 + n % facL E 2 := by rw [s1]; exact mod_split _ _ _
  have e3 : n % facL E 2 = n / 1 % fac (wrs E 0 2).length := by rw [s2, Nat.div_one]
  generalize hy : exN E n = y
  unfold exs
  rw [e0, flat_at _ (facL E 0) _ (fun f _ => exs1_len E f) _ _ _ hF (Nat.mod_lt _ p0)]
  rw [e1, flat_at _ (facL E 1) _ (fun a _ => exs2_len E _ a) _ _ _ hA (Nat.mod_lt _ p1)]
  rw [e2, flat_at _ (facL E 2) _ (fun b _ => exs3_len E _ _ b) _ _ _ hB (Nat.mod_lt _ p2)]
  rw [List.getElem?_map, e3, hC, ← hy]
  rfl

/-- The document's own way to lay out the first part: one read more at the right. -/
theorem allF_step (acc : List (List Int)) (o : List Int) (os : List (List Int)) :
    (acc.flatMap fun a => (allF (o :: os)).map fun r => a ++ r) = ((acc.flatMap fun a => o.map fun x => a ++ [x]).flatMap fun b => (allF os).map fun r => b ++ r) := by
  rw [List.flatMap_assoc]
  congr 1
  funext a
  rw [show allF (o :: os) = o.flatMap (fun x => (allF os).map fun r => x :: r) from rfl, List.map_flatMap, List.flatMap_map]
  congr 1
  funext x
  rw [List.map_map]
  congr 1
  funext r
  simp

theorem allF_done (acc : List (List Int)) : (acc.flatMap fun a => (allF []).map fun r => a ++ r) = acc := by
  unfold allF
  induction acc with
  | nil => rfl
  | cons a acc ih => rw [List.flatMap_cons, ih]; simp

end Go.Proofs.Ytomijmikkbhgmab

namespace Go.Proofs.Ytomijmikkbhgmab
open Go.RowKit

/-- Nothing has turned but block B, and what is new. -/
structure Only (B : Nat) (w w' : World) : Prop where
  os : w'.os = w.os
  tape : w'.tape = w.tape
  output : w'.output = w.output
  size : w.heap.size ≤ w'.heap.size
  block : ∀ k, k < w.heap.size → k ≠ B → w'.heap[k]? = w.heap[k]?

theorem Only.refl (B : Nat) (w : World) : Only B w w := ⟨rfl, rfl, rfl, Nat.le_refl _, fun _ _ _ => rfl⟩
theorem Only.trans {B : Nat} {a b c : World} (h : Only B a b) (k : Only B b c) : Only B a c :=
  ⟨k.os.trans h.os, k.tape.trans h.tape, k.output.trans h.output, Nat.le_trans h.size k.size, fun i hi hn => (k.block i (Nat.lt_of_lt_of_le hi h.size) hn).trans (h.block i hi hn)⟩
theorem Only.of_below {B : Nat} {w w' : World} (h : Below w.heap.size w w') : Only B w w' := ⟨h.os, h.tape, h.output, h.size, fun k hk _ => h.block k hk⟩
theorem Only.below {B n : Nat} {w w' : World} (h : Only B w w') (h1 : n ≤ B) (h2 : n ≤ w.heap.size) : Below n w w' := ⟨h.os, h.tape, h.output, h.size, fun k hk => h.block k (by omega) (by omega)⟩
theorem Only.grown {B n : Nat} {w w' : World} {row : Option Nat} (hg : w.grownBy w' row) (hr : ∀ k, row = some k → n ≤ k) {a : World} (h : Only B a w) (hn : a.heap.size ≤ n) : Only B a w' :=
  ⟨hg.os.trans h.os, hg.tape.trans h.tape, hg.output.trans h.output, Nat.le_trans h.size hg.size, fun k hk hB => (hg.block k (Nat.lt_of_lt_of_le hk h.size) (fun e => by have := hr k e.symm; omega)).trans (h.block k hk hB)⟩
theorem Only.cell {B : Nat} {w w' : World} (h : Only B w w') {b off : Nat} {u : Value} (hc : w.cell? ⟨b, off, none⟩ = some u) (hn : b ≠ B) : w'.cell? ⟨b, off, none⟩ = some u :=
  (World.cell?_of_block (w := w) (h.block b (World.block_lt_of_cell? w _ hc) hn)).trans hc

/-- .. and its block is new too, be it empty. -/
def IntOwn (B : Nat) (w : World) (v : Value) (l : List Int) : Prop := IntNew B w v l ∧ ∀ g, v.ownBlock = some g → B ≤ g ∧ g < w.heap.size
theorem owns_own {w : World} {base : Nat} {e : TypeId} {v : Value} {l : List Int} (h : w.ownsRow base e 1 v l.length (l.map (Value.int .i64))) : IntOwn base w v l := ⟨owns_int h, fun g hg => h.lt g hg⟩

theorem IntAt.only {B : Nat} {w w' : World} {v : Value} {l : List Int} {ao : Option Addr} {b off cap : Nat} (h : SlAt w 1 IntC v l ao b off cap) (ho : Only B w w') (hn : b ≠ B) : SlAt w' 1 IntC v l ao b off cap :=
  ⟨h.hv, h.ha, h.hn, fun k x hx => ho.cell (h.hc k x hx) hn⟩

theorem erase_take {l : List Int} {at' : Nat} (_h : at' < l.length) : l.eraseIdx at' = l.take at' ++ l.drop (at' + 1) := List.eraseIdx_eq_take_drop_succ ..

end Go.Proofs.Ytomijmikkbhgmab

namespace Go.Proofs.Ytomijmikkbhgmab
open Go.RowKit

theorem Try.infoInts : (Try.prog.info? 39).map (fun i => (i.zero, i.size, i.bytes)) = some (some (.slice none 0 0), 1, 24) := by kernel_rfl

def LC (w : World) (b off : Nat) (x : List Int) : Prop := ∃ u, w.cell? ⟨b, off, none⟩ = some u ∧ IntAt w u x
def LstAt (w : World) (v : Value) (L : List (List Int)) : Prop := ∃ ao b off cap, SlAt w 1 LC v L ao b off cap

theorem lc_keeps : Keeps LC := fun _ _ _ _ _ hb ⟨u, h1, h2⟩ => ⟨u, keep_cell hb h1, h2.keep hb⟩
theorem LstAt.keep {w w' : World} {v : Value} {L : List (List Int)} (h : LstAt w v L) (hb : Below w.heap.size w w') : LstAt w' v L := by
  obtain ⟨ao, b, off, cap, h⟩ := h
  exact ⟨ao, b, off, cap, h.keep lc_keeps hb⟩

structure ExeAt (w : World) (vf vo : Value) (x : Exe) : Prop where
  f : IntAt w vf x.from'
  o : LstAt w vo x.order
theorem ExeAt.keep {w w' : World} {vf vo : Value} {x : Exe} (h : ExeAt w vf vo x) (hb : Below w.heap.size w w') : ExeAt w' vf vo x := ⟨h.f.keep hb, h.o.keep hb⟩

theorem IntAt.form {w : World} {v : Value} {l : List Int} (h : IntAt w v l) : ∃ ao cap, v = .slice ao l.length cap := by
  obtain ⟨ao, b, off, cap, h⟩ := h
  exact ⟨ao, cap, h.hv⟩

theorem IntAt.other {w w' : World} {v : Value} {l : List Int} (h : IntAt w v l) (hs : ∀ b : Nat, v.ownBlock = some b → w'.heap[b]? = w.heap[b]?) : IntAt w' v l := by
  obtain ⟨ao, b, off, cap, hv, ha, hn, hc⟩ := h
  refine ⟨ao, b, off, cap, hv, ha, hn, fun k x hx => ?_⟩
  have hk : k < l.length := (List.getElem?_eq_some_iff.1 hx).1
  exact cell_heap (hs b (by rw [hv, ha (ne_nil hk)]; rfl)) (hc k x hx)

/-- A slice of numbers with room enough. -/
def IntCap (w : World) (v : Value) (l : List Int) : Prop := ∃ ao b off cap, SlAt w 1 IntC v l ao b off cap ∧ l.length ≤ cap
theorem IntNew.cap {B : Nat} {w : World} {v : Value} {l : List Int} (h : IntNew B w v l) : IntCap w v l := by
  obtain ⟨ao, b, off, cap, h1, _, h2⟩ := h
  exact ⟨ao, b, off, cap, h1, h2⟩
theorem IntCap.at' {w : World} {v : Value} {l : List Int} (h : IntCap w v l) : IntAt w v l := by
  obtain ⟨ao, b, off, cap, h1, _⟩ := h
  exact ⟨ao, b, off, cap, h1⟩
theorem IntCap.keep {w w' : World} {v : Value} {l : List Int} (h : IntCap w v l) (hb : Below w.heap.size w w') : IntCap w' v l := by
  obtain ⟨ao, b, off, cap, h1, h2⟩ := h
  exact ⟨ao, b, off, cap, h1.keep intC_keeps hb, h2⟩
theorem intCap_nil (w : World) : IntCap w (.slice none 0 0) [] := ⟨none, 0, 0, 0, ⟨rfl, fun h => absurd rfl h, fun _ => ⟨rfl, rfl⟩, fun k x h => by simp at h⟩, Nat.le_refl _⟩

theorem IntCap.other {w w' : World} {v : Value} {l : List Int} (h : IntCap w v l) (hs : ∀ b : Nat, v.ownBlock = some b → w'.heap[b]? = w.heap[b]?) : IntCap w' v l := by
  obtain ⟨ao, b, off, cap, ⟨hv, ha, hn, hc⟩, hl⟩ := h
  refine ⟨ao, b, off, cap, ⟨hv, ha, hn, fun k x hx => ?_⟩, hl⟩
  have hk : k < l.length := (List.getElem?_eq_some_iff.1 hx).1
  exact cell_heap (hs b (by rw [hv, ha (ne_nil hk)]; rfl)) (hc k x hx)
theorem IntCap.form {w : World} {v : Value} {l : List Int} (h : IntCap w v l) : ∃ ao cap, v = .slice ao l.length cap := h.at'.form

def LCC (w : World) (b off : Nat) (x : List Int) : Prop := ∃ u, w.cell? ⟨b, off, none⟩ = some u ∧ IntCap w u x
theorem lcc_keeps : Keeps LCC := fun _ _ _ _ _ hb ⟨u, h1, h2⟩ => ⟨u, keep_cell hb h1, h2.keep hb⟩

def LstC (w : World) (v : Value) (L : List (List Int)) : Prop := ∃ ao b off cap, SlAt w 1 LCC v L ao b off cap
theorem LstC.keep {w w' : World} {v : Value} {L : List (List Int)} (h : LstC w v L) (hb : Below w.heap.size w w') : LstC w' v L := by
  obtain ⟨ao, b, off, cap, h⟩ := h
  exact ⟨ao, b, off, cap, h.keep lcc_keeps hb⟩

/-- An execution whose lists have room for themselves. -/
structure ExeC (w : World) (vf vo : Value) (x : Exe) : Prop where
  f : IntAt w vf x.from'
  o : ∃ ao b off cap, SlAt w 1 LCC vo x.order ao b off cap
theorem ExeC.keep {w w' : World} {vf vo : Value} {x : Exe} (h : ExeC w vf vo x) (hb : Below w.heap.size w w') : ExeC w' vf vo x := by
  obtain ⟨ao, b, off, cap, hs⟩ := h.o
  exact ⟨h.f.keep hb, ao, b, off, cap, hs.keep lcc_keeps hb⟩
theorem ExeC.at' {w : World} {vf vo : Value} {x : Exe} (h : ExeC w vf vo x) : ExeAt w vf vo x := by
  obtain ⟨ao, b, off, cap, hs⟩ := h.o
  refine ⟨h.f, ao, b, off, cap, hs.hv, hs.ha, hs.hn, fun k l hl => ?_⟩
  obtain ⟨u, h1, h2⟩ := hs.hc k l hl
  exact ⟨u, h1, h2.at'⟩

/-- A slice of slices of the call's own, each of whose rows lies in a block of its own. -/
structure LL (w : World) (base : Nat) (V : Value) (L : List (List Int)) (vs : List Value) : Prop where
  len : vs.length = L.length
  own : w.ownsRow base 39 1 V L.length vs
  rows : ∀ (j : Nat) (x : List Int), L[j]? = some x → ∃ u, vs[j]? = some u ∧ IntCap w u x ∧ ∀ b, u.ownBlock = some b → base ≤ b ∧ b < w.heap.size ∧ V.ownBlock ≠ some b

theorem LL.nil (w : World) (base : Nat) : LL w base (.slice none 0 0) [] [] := ⟨rfl, World.ownsRow_nil _ _ _ _, fun j x h => by simp at h⟩

theorem LL.other {w w' : World} {base : Nat} {V : Value} {L : List (List Int)} {vs : List Value} (h : LL w base V L vs) (hsz : w.heap.size ≤ w'.heap.size) (hs : ∀ b : Nat, base ≤ b → b < w.heap.size → w'.heap[b]? = w.heap[b]?) : LL w' base V L vs := by
  refine ⟨h.len, own_other h.own (fun b hb => hs b (h.own.lt b hb).1 (h.own.lt b hb).2), fun j x hx => ?_⟩
  obtain ⟨u, h1, h2, h3⟩ := h.rows j x hx
  exact ⟨u, h1, h2.other (fun b hb => hs b (h3 b hb).1 (h3 b hb).2.1), fun b hb => ⟨(h3 b hb).1, Nat.lt_of_lt_of_le (h3 b hb).2.1 hsz, (h3 b hb).2.2⟩⟩
theorem LL.keep {w w' : World} {base : Nat} {V : Value} {L : List (List Int)} {vs : List Value} (h : LL w base V L vs) (hb : Below w.heap.size w w') : LL w' base V L vs := h.other hb.size (fun b _ hb2 => hb.block b hb2)
theorem LL.only {B : Nat} {w w' : World} {base : Nat} {V : Value} {L : List (List Int)} {vs : List Value} (h : LL w base V L vs) (ho : Only B w w') (hB : B < base) : LL w' base V L vs := h.other ho.size (fun b h1 h2 => ho.block b h2 (by omega))

theorem LL.snoc {w w2 : World} {base : Nat} {V V' : Value} {L : List (List Int)} {vs : List Value} (h : LL w base V L vs) {x : List Int} {u : Value} {o : Obj} (hu : IntCap w u x)
    (hub : ∀ b, u.ownBlock = some b → base ≤ b ∧ b < w.heap.size ∧ V.ownBlock ≠ some b) (hown : w2.ownsRow base 39 1 V' (L.length + 1) (vs ++ [u])) (hg : (w.alloc o).grownBy w2 V.ownBlock)
    (hap : ∀ g, V'.ownBlock = some g → V.ownBlock = some g ∨ w.heap.size + 1 ≤ g) : LL w2 base V' (L ++ [x]) (vs ++ [u]) := by
  have hsz : w.heap.size + 1 ≤ w2.heap.size := by have := hg.size; simpa using this
  have key : ∀ b : Nat, b < w.heap.size → V.ownBlock ≠ some b → w2.heap[b]? = w.heap[b]? := by
    intro b hb hne
    rw [hg.block b (by simp; omega) (fun e => hne e.symm), Below.heap_alloc _ _ _ hb]
  refine ⟨by simp [h.len], by simpa using hown, fun j y hy => ?_⟩
  by_cases hj : j < L.length
  · rw [List.getElem?_append_left hj] at hy
    obtain ⟨z, h1, h2, h3⟩ := h.rows j y hy
    refine ⟨z, by rw [List.getElem?_append_left (by rw [h.len]; exact hj)]; exact h1, h2.other (fun b hb => key b (h3 b hb).2.1 (h3 b hb).2.2), fun b hb => ?_⟩
    have h4 := (h3 b hb).2.1
    refine ⟨(h3 b hb).1, by omega, fun e => ?_⟩
    rcases hap b e with e' | e'
    · exact (h3 b hb).2.2 e'
    · omega
  · have hjL : j = L.length := by
      have := (List.getElem?_eq_some_iff.1 hy).1
      simp at this; omega
    subst hjL
    rw [List.getElem?_append_right (Nat.le_refl _), Nat.sub_self] at hy
    simp at hy
    subst hy
    refine ⟨u, by rw [List.getElem?_append_right (by rw [h.len]; exact Nat.le_refl _), h.len]; simp, hu.other (fun b hb => key b (hub b hb).2.1 (hub b hb).2.2), fun b hb => ?_⟩
    have h4 := (hub b hb).2.1
    refine ⟨(hub b hb).1, by omega, fun e => ?_⟩
    rcases hap b e with e' | e'
    · exact (hub b hb).2.2 e'
    · omega

/-- A list of lists in memory that is new: from block B on, its rows too. -/
def LstNew (B : Nat) (w : World) (v : Value) (L : List (List Int)) : Prop :=
  ∃ ao b off cap, v = .slice ao L.length cap ∧ (L ≠ [] → ao = some ⟨b, off, none⟩) ∧ (ao = none → L = [] ∧ cap = 0) ∧ B ≤ b ∧
    ∀ (k : Nat) (x : List Int), L[k]? = some x → ∃ u, w.cell? ⟨b, off + k, none⟩ = some u ∧ IntCap w u x ∧ ∀ g, u.ownBlock = some g → B ≤ g ∧ g < w.heap.size

theorem LL.read {w : World} {base : Nat} {V : Value} {L : List (List Int)} {vs : List Value} (h : LL w base V L vs) : LstNew base w V L := by
  rcases h.own.2 with ⟨hv, hn⟩ | ⟨g, cap, cur, hv, hg, hh, _⟩
  · have h0 : L = [] := List.eq_nil_of_length_eq_zero hn
    subst h0
    exact ⟨none, base, 0, 0, hv, fun h => absurd rfl h, fun _ => ⟨rfl, rfl⟩, Nat.le_refl _, fun k x h => by simp at h⟩
  · refine ⟨_, g, 0, cap, hv, fun _ => rfl, fun h => by simp at h, hg, fun k x hk => ?_⟩
    obtain ⟨u, h1, h2, h3⟩ := h.rows k x hk
    have := h.own.cells (g := g) (by rw [hv]; rfl) k u h1
    rw [Addr.add_lit] at this
    exact ⟨u, this, h2, fun b hb => ⟨(h3 b hb).1, (h3 b hb).2.1⟩⟩

theorem LstNew.at' {B : Nat} {w : World} {v : Value} {L : List (List Int)} (h : LstNew B w v L) : LstAt w v L := by
  obtain ⟨ao, b, off, cap, hv, ha, hn, _, hc⟩ := h
  refine ⟨ao, b, off, cap, hv, ha, hn, fun k x hx => ?_⟩
  obtain ⟨u, h1, h2, _⟩ := hc k x hx
  rw [Nat.mul_one]
  exact ⟨u, h1, h2.at'⟩
theorem LstNew.caps {B : Nat} {w : World} {v : Value} {L : List (List Int)} (h : LstNew B w v L) : ∃ ao b off cap, SlAt w 1 LCC v L ao b off cap := by
  obtain ⟨ao, b, off, cap, hv, ha, hn, _, hc⟩ := h
  refine ⟨ao, b, off, cap, hv, ha, hn, fun k x hx => ?_⟩
  obtain ⟨u, h1, h2, _⟩ := hc k x hx
  rw [Nat.mul_one]
  exact ⟨u, h1, h2⟩

/-- What is left of a slice behind its first k entries. -/
theorem intCap_drop {w : World} {l : List Int} {b off cap : Nat} (h : SlAt w 1 IntC (.slice (some ⟨b, off, none⟩) l.length cap) l (some ⟨b, off, none⟩) b off cap) (hc : l.length ≤ cap) {k : Nat} (hk : k ≤ l.length) :
    IntCap w (.slice (if cap = k then (some ⟨b, off, none⟩ : Option Addr) else some ⟨b, off + k, none⟩) (l.length - k) (cap - k)) (l.drop k) := by
  by_cases e : cap = k
  · rw [if_pos e]
    have hd : l.drop k = [] := List.drop_eq_nil_of_le (by omega)
    rw [hd]
    exact ⟨_, b, off, _, ⟨by rw [show l.length - k = 0 by omega]; rfl, fun h => absurd rfl h, fun h => by simp at h, fun k x h => by simp at h⟩, Nat.zero_le _⟩
  · rw [if_neg e]
    refine ⟨_, b, off + k, _, ⟨by rw [List.length_drop], fun _ => rfl, fun h => by simp at h, fun j x hx => ?_⟩, by rw [List.length_drop]; omega⟩
    rw [List.getElem?_drop] at hx
    have := h.hc (k + j) x hx
    unfold IntC at this ⊢
    rw [Nat.mul_one] at this ⊢
    rw [Nat.add_assoc]; exact this

end Go.Proofs.Ytomijmikkbhgmab

namespace Go.Proofs.Ytomijmikkbhgmab
open Go.RowKit

end Go.Proofs.Ytomijmikkbhgmab

namespace Go.Proofs.Ytomijmikkbhgmab
open Go.RowKit

/-- The reads: their numbers, and they themselves. -/
def rdsX : List Evt → Nat → List (Nat × Evt)
  | [], _ => []
  | x :: E, i => if x.kind == 0 then (i, x) :: rdsX E (i + 1) else rdsX E (i + 1)
def rdsI (E : List Evt) (i : Nat) : List Int := (rdsX E i).map fun p => (p.1 : Int)

theorem rdsX_hit {x : Evt} (h : (x.kind == 0) = true) (E : List Evt) (i : Nat) : rdsX (x :: E) i = (i, x) :: rdsX E (i + 1) := by rw [rdsX, if_pos h]
theorem rdsX_mis {x : Evt} (h : (x.kind == 0) = false) (E : List Evt) (i : Nat) : rdsX (x :: E) i = rdsX E (i + 1) := by rw [rdsX, if_neg (by simp [h])]

theorem rdo_eq (E R : List Evt) (i : Nat) : rdo E R = (rdsX R i).map fun p => -1 :: wrs E 0 p.2.loc := by
  induction R generalizing i with
  | nil => rfl
  | cons x R ih =>
    cases h : x.kind == 0
    · rw [rdsX_mis h, rdo, if_neg (by simp [h])]; exact ih (i + 1)
    · rw [rdsX_hit h, rdo, if_pos h, List.map_cons, ih (i + 1)]

theorem rdsX_get {R : List Evt} {i : Nat} {p : Nat × Evt} (h : p ∈ rdsX R i) : i ≤ p.1 ∧ R[p.1 - i]? = some p.2 := by
  induction R generalizing i with
  | nil => simp [rdsX] at h
  | cons x R ih =>
    have key : p ∈ rdsX R (i + 1) → i ≤ p.1 ∧ (x :: R)[p.1 - i]? = some p.2 := by
      intro hp
      obtain ⟨h1, h2⟩ := ih hp
      refine ⟨by omega, ?_⟩
      rw [show p.1 - i = (p.1 - (i + 1)) + 1 by omega]
      simpa using h2
    cases hk : x.kind == 0
    · rw [rdsX_mis hk] at h; exact key h
    · rw [rdsX_hit hk] at h
      rcases List.mem_cons.1 h with rfl | h
      · simp
      · exact key h

theorem rdsX_len (R : List Evt) (i : Nat) : (rdsX R i).length ≤ R.length := by
  induction R generalizing i with
  | nil => simp [rdsX]
  | cons x R ih => have := ih (i + 1); unfold rdsX; split <;> simp <;> omega

theorem int_cells {w : World} {v : Value} {l : List Int} {ao : Option Addr} {b off cap : Nat} (h : SlAt w 1 IntC v l ao b off cap) : ∀ ad, ao = some ad → ∀ j u, (l.map (Value.int .i64))[j]? = some u → w.cell? (ad.add j) = some u := by
  intro ad had j u hj
  rw [List.getElem?_map] at hj
  obtain ⟨x, hx, rfl⟩ := Option.map_eq_some_iff.1 hj
  have hk : j < l.length := (List.getElem?_eq_some_iff.1 hx).1
  rw [h.ha (ne_nil hk)] at had
  cases had
  have hC := h.hc j x hx
  unfold IntC at hC
  rw [Nat.mul_one] at hC
  rw [Addr.add_lit]; exact hC

end Go.Proofs.Ytomijmikkbhgmab
