import Derived.Test.YtomijmikkbhgmaaGreatT2
import Derived.Deep.QuietTactic
import Derived.BigQuiet
namespace Go.Proofs.YtomijmikkbhgmaaGreat

/-- What each read may read from, read by read. -/
def rdo (E : List Evt) : List Evt → List (List Int)
  | [] => []
  | x :: R => if x.kind == 0 then (-1 :: wrs E 0 x.loc) :: rdo E R else rdo E R

def plen : List (List Int) → Nat
  | [] => 1
  | o :: os => o.length * plen os

theorem plen_rdo (E R : List Evt) : plen (rdo E R) = prodR E R := by
  induction R with
  | nil => rfl
  | cons x R ih =>
    unfold rdo prodR
    cases x.kind == 0
    · simp [ih]
    · simp [plen, ih, Nat.add_comm]

/-- All ways to choose one of each list, the first list slowest. -/
def allF : List (List Int) → List (List Int)
  | [] => [[]]
  | o :: os => o.flatMap fun a => (allF os).map fun r => a :: r

theorem allF_len (os : List (List Int)) : (allF os).length = plen os := by
  induction os with
  | nil => rfl
  | cons o os ih =>
    unfold allF plen
    rw [← ih]
    induction o with
    | nil => simp
    | cons a o ih2 => rw [List.flatMap_cons, List.length_append, ih2, List.length_map, List.length_cons, Nat.add_mul]; omega

/-- The choices that a number stands for. -/
def chF (n : Nat) : List (List Int) → Nat → List Int
  | [], _ => []
  | o :: os, w => o.getD (n / (w / o.length) % o.length) 0 :: chF n os (w / o.length)

theorem plen_pos {os : List (List Int)} (h : ∀ o ∈ os, 1 ≤ o.length) : 1 ≤ plen os := by
  induction os with
  | nil => exact Nat.le_refl 1
  | cons o os ih =>
    have h1 := h o (List.mem_cons_self ..)
    have h2 := ih (fun x hx => h x (List.mem_cons_of_mem _ hx))
    have := Nat.mul_le_mul h1 h2
    unfold plen; omega

/-- An entry of lists of s entries each, laid one behind the other. -/
theorem flat_at {α β : Type} (f : α → List β) (s : Nat) (l : List α) (hf : ∀ x ∈ l, (f x).length = s) (k j : Nat) (x : α) (hx : l[k]? = some x) (hj : j < s) : (l.flatMap f)[k * s + j]? = (f x)[j]? := by
  induction l generalizing k with
  | nil => simp at hx
  | cons a l ih =>
    have ha := hf a (List.mem_cons_self ..)
    cases k with
    | zero => simp at hx; subst hx; rw [List.flatMap_cons, List.getElem?_append_left (by rw [ha]; omega)]; simp
    | succ k =>
      rw [List.flatMap_cons, List.getElem?_append_right (by rw [ha, Nat.add_mul]; omega), ha]
      rw [show (k + 1) * s + j - s = k * s + j by rw [Nat.add_mul]; omega]
      exact ih (fun x hx => hf x (List.mem_cons_of_mem _ hx)) k (by simpa using hx)

theorem mod_split (a m P : Nat) : a % (m * P) = (a / P % m) * P + a % P := by
  rw [Nat.mul_comm m P, Nat.mod_mul]
  rw [Nat.mul_comm P (a / P % m)]
  omega

theorem chF_at (n : Nat) (os : List (List Int)) (h : ∀ o ∈ os, 1 ≤ o.length) (R : Nat) (_hR : 1 ≤ R) : (allF os)[n / R % plen os]? = some (chF n os (plen os * R)) := by
  induction os with
  | nil => simp [allF, plen, chF, Nat.mod_one]
  | cons o os ih =>
    have h1 := h o (List.mem_cons_self ..)
    have hos := fun x hx => h x (List.mem_cons_of_mem o hx)
    have hP := plen_pos hos
    have hw : o.length * plen os * R / o.length = plen os * R := by rw [Nat.mul_assoc]; exact Nat.mul_div_cancel_left _ h1
    have hd : n / R / plen os = n / (plen os * R) := by rw [Nat.div_div_eq_div_mul, Nat.mul_comm]
    unfold plen chF
    rw [hw, mod_split, hd]
    have hlt : n / (plen os * R) % o.length < o.length := Nat.mod_lt _ h1
    unfold allF
    rw [flat_at _ (plen os) o (fun x _ => by rw [List.length_map, allF_len]) _ _ (o.getD (n / (plen os * R) % o.length) 0) (by rw [List.getD, List.getElem?_eq_getElem hlt]; rfl) (Nat.mod_lt _ hP)]
    rw [List.getElem?_map, ih hos]
    rfl

/-! orders of a list -/
def ordN : Nat → List Int → List (List Int)
  | 0, _ => [[]]
  | m + 1, l => (List.range l.length).flatMap fun i => (ordN m (l.eraseIdx i)).map fun r => l.getD i 0 :: r

theorem ordN_len (m : Nat) (l : List Int) (h : l.length = m) : (ordN m l).length = fac m := by
  induction m generalizing l with
  | zero => rfl
  | succ m ih =>
    have key : ∀ (k : Nat), k ≤ l.length → ((List.range k).flatMap fun i => (ordN m (l.eraseIdx i)).map fun r => l.getD i 0 :: r).length = k * fac m := by
      intro k hk
      induction k with
      | zero => simp
      | succ k ihk =>
        rw [List.range_succ, List.flatMap_append, List.length_append, ihk (by omega)]
        simp only [List.flatMap_cons, List.flatMap_nil, List.append_nil, List.length_map]
        rw [ih _ (by rw [List.length_eraseIdx, if_pos (by omega)]; omega), Nat.add_mul]; omega
    unfold ordN
    rw [key l.length (Nat.le_refl _), h]
    rfl

def chO (n : Nat) : Nat → List Int → Nat → List Int
  | 0, _, _ => []
  | m + 1, l, w => l.getD (n / (w / l.length) % l.length) 0 :: chO n m (l.eraseIdx (n / (w / l.length) % l.length)) (w / l.length)

theorem chO_at (n m : Nat) (l : List Int) (h : l.length = m) (R : Nat) (_hR : 1 ≤ R) : (ordN m l)[n / R % fac m]? = some (chO n m l (fac m * R)) := by
  induction m generalizing l with
  | zero => simp [ordN, fac, chO, Nat.mod_one]
  | succ m ih =>
    have h1 : 1 ≤ l.length := by omega
    have hw : (m + 1) * fac m * R / (m + 1) = fac m * R := by rw [Nat.mul_assoc]; exact Nat.mul_div_cancel_left _ (by omega)
    have hd : n / R / fac m = n / (fac m * R) := by rw [Nat.div_div_eq_div_mul, Nat.mul_comm]
    unfold fac chO
    rw [h, hw, mod_split, hd]
    have hlt : n / (fac m * R) % (m + 1) < m + 1 := Nat.mod_lt _ (by omega)
    have he : (l.eraseIdx (n / (fac m * R) % (m + 1))).length = m := by rw [List.length_eraseIdx, if_pos (by omega)]; omega
    unfold ordN
    rw [flat_at _ (fac m) (List.range l.length) (fun i hi => by
        have hi' : i < l.length := by simpa using hi
        rw [List.length_map, ordN_len _ _ (by rw [List.length_eraseIdx, if_pos hi']; omega)]) _ _ (n / (fac m * R) % (m + 1)) (by simp [h, hlt]) (Nat.mod_lt _ (fac_pos m))]
    rw [List.getElem?_map, ih _ he]
    rfl

/-! whole candidates -/
structure Exe where
  from' : List Int
  order : List (List Int)

def ords (E : List Evt) (j : Int) : List (List Int) := ordN (wrs E 0 j).length (wrs E 0 j)

def exs (E : List Evt) : List Exe :=
  (allF (rdo E E)).flatMap fun f => (ords E 0).flatMap fun a => (ords E 1).flatMap fun b => (ords E 2).map fun c => ⟨f, [a, b, c]⟩

/-- The candidate with a number, as the digits say. -/
def exN (E : List Evt) (n : Nat) : Exe :=
  ⟨chF n (rdo E E) (sizeN E), [chO n (wrs E 0 0).length (wrs E 0 0) (facL E 0), chO n (wrs E 0 1).length (wrs E 0 1) (facL E 1), chO n (wrs E 0 2).length (wrs E 0 2) (facL E 2)]⟩

theorem ords_len (E : List Evt) (j : Int) : (ords E j).length = fac (wrs E 0 j).length := ordN_len _ _ rfl

theorem flat_length {α β : Type} (f : α → List β) (s : Nat) (l : List α) (hf : ∀ x ∈ l, (f x).length = s) : (l.flatMap f).length = l.length * s := by
  induction l with
  | nil => simp
  | cons a l ih => rw [List.flatMap_cons, List.length_append, ih (fun x hx => hf x (List.mem_cons_of_mem _ hx)), hf a (List.mem_cons_self ..), List.length_cons, Nat.add_mul]; omega

theorem exs3_len (E : List Evt) (f : List Int) (a b : List Int) : ((ords E 2).map fun c => (⟨f, [a, b, c]⟩ : Exe)).length = facL E 2 := by rw [List.length_map, ords_len]; rfl
theorem exs2_len (E : List Evt) (f : List Int) (a : List Int) : ((ords E 1).flatMap fun b => (ords E 2).map fun c => (⟨f, [a, b, c]⟩ : Exe)).length = facL E 1 := by
  rw [flat_length _ (facL E 2) _ (fun b _ => exs3_len E f a b), ords_len]; rfl
theorem exs1_len (E : List Evt) (f : List Int) : ((ords E 0).flatMap fun a => (ords E 1).flatMap fun b => (ords E 2).map fun c => (⟨f, [a, b, c]⟩ : Exe)).length = facL E 0 := by
  rw [flat_length _ (facL E 1) _ (fun a _ => exs2_len E f a), ords_len]; rfl
theorem exs_len (E : List Evt) : (exs E).length = sizeN E := by
  unfold exs
  rw [flat_length _ (facL E 0) _ (fun f _ => exs1_len E f), allF_len, plen_rdo]; rfl

theorem rdo_pos (E R : List Evt) : ∀ o ∈ rdo E R, 1 ≤ o.length := by
  induction R with
  | nil => simp [rdo]
  | cons x R ih =>
    unfold rdo
    split
    · intro o ho
      rcases List.mem_cons.1 ho with rfl | h
      · simp
      · exact ih o h
    · exact ih

theorem exs_at (E : List Evt) (n : Nat) (hn : n < sizeN E) : (exs E)[n]? = some (exN E n) := by
  have p0 := facL_pos E 0; have p1 := facL_pos E 1; have p2 := facL_pos E 2
  have hF : (allF (rdo E E))[n / facL E 0]? = some (chF n (rdo E E) (sizeN E)) := by
    have := chF_at n (rdo E E) (rdo_pos E E) (facL E 0) p0
    rw [plen_rdo, ← sizeN_eq] at this
    rw [Nat.mod_eq_of_lt] at this
    · exact this
    · exact (Nat.div_lt_iff_lt_mul p0).2 (by rw [← sizeN_eq]; exact hn)
  have hA : (ords E 0)[n / facL E 1 % fac (wrs E 0 0).length]? = some (chO n (wrs E 0 0).length (wrs E 0 0) (facL E 0)) := chO_at n _ _ rfl (facL E 1) p1
  have hB : (ords E 1)[n / facL E 2 % fac (wrs E 0 1).length]? = some (chO n (wrs E 0 1).length (wrs E 0 1) (facL E 1)) := chO_at n _ _ rfl (facL E 2) p2
  have hC : (ords E 2)[n / 1 % fac (wrs E 0 2).length]? = some (chO n (wrs E 0 2).length (wrs E 0 2) (facL E 2)) := by
    have := chO_at n (wrs E 0 2).length (wrs E 0 2) rfl 1 (Nat.le_refl 1)
    rw [Nat.mul_one] at this
    exact this
  have s0 : facL E 0 = fac (wrs E 0 0).length * facL E 1 := rfl
  have s1 : facL E 1 = fac (wrs E 0 1).length * facL E 2 := rfl
  have s2 : facL E 2 = fac (wrs E 0 2).length := rfl
  have e0 : n = n / facL E 0 * facL E 0 + n % facL E 0 := by rw [Nat.mul_comm]; exact (Nat.div_add_mod n _).symm
  have e1 : n % facL E 0 = (n / facL E 1 % fac (wrs E 0 0).length) * facL E 1 + n % facL E 1 := by rw [s0]; exact mod_split _ _ _
  have e2 : n % facL E 1 = (n / facL E 2 % fac (wrs E 0 1).length) * facL E 2 + n % facL E 2 := by rw [s1]; exact mod_split _ _ _
  have e3 : n % facL E 2 = n / 1 % fac (wrs E 0 2).length := by rw [s2, Nat.div_one]
  generalize hy : exN E n = y
  unfold exs
  rw [e0, flat_at _ (facL E 0) _ (fun f _ => exs1_len E f) _ _ _ hF (Nat.mod_lt _ p0)]
  rw [e1, flat_at _ (facL E 1) _ (fun a _ => exs2_len E _ a) _ _ _ hA (Nat.mod_lt _ p1)]
  rw [e2, flat_at _ (facL E 2) _ (fun b _ => exs3_len E _ _ b) _ _ _ hB (Nat.mod_lt _ p2)]
  rw [List.getElem?_map, e3, hC, ← hy]
  rfl

/-- The document's own way to lay out the first part: one read more at the right. -/
theorem allF_step (acc : List (List Int)) (o : List Int) (os : List (List Int)) :
    (acc.flatMap fun a => (allF (o :: os)).map fun r => a ++ r) = ((acc.flatMap fun a => o.map fun x => a ++ [x]).flatMap fun b => (allF os).map fun r => b ++ r) := by
  rw [List.flatMap_assoc]
  congr 1
  funext a
  rw [show allF (o :: os) = o.flatMap (fun x => (allF os).map fun r => x :: r) from rfl, List.map_flatMap, List.flatMap_map]
  congr 1
  funext x
  rw [List.map_map]
  congr 1
  funext r
  simp

theorem allF_done (acc : List (List Int)) : (acc.flatMap fun a => (allF []).map fun r => a ++ r) = acc := by
  unfold allF
  induction acc with
  | nil => rfl
  | cons a acc ih => rw [List.flatMap_cons, ih]; simp

end Go.Proofs.YtomijmikkbhgmaaGreat

namespace Go.Proofs.YtomijmikkbhgmaaGreat
open Go.RowKit

/-- Nothing has turned but block B, and what is new. -/
structure Only (B : Nat) (w w' : World) : Prop where
  os : w'.os = w.os
  tape : w'.tape = w.tape
  output : w'.output = w.output
  size : w.heap.size ≤ w'.heap.size
  block : ∀ k, k < w.heap.size → k ≠ B → w'.heap[k]? = w.heap[k]?

theorem Only.refl (B : Nat) (w : World) : Only B w w := ⟨rfl, rfl, rfl, Nat.le_refl _, fun _ _ _ => rfl⟩
theorem Only.trans {B : Nat} {a b c : World} (h : Only B a b) (k : Only B b c) : Only B a c :=
  ⟨k.os.trans h.os, k.tape.trans h.tape, k.output.trans h.output, Nat.le_trans h.size k.size, fun i hi hn => (k.block i (Nat.lt_of_lt_of_le hi h.size) hn).trans (h.block i hi hn)⟩
theorem Only.of_below {B : Nat} {w w' : World} (h : Below w.heap.size w w') : Only B w w' := ⟨h.os, h.tape, h.output, h.size, fun k hk _ => h.block k hk⟩
theorem Only.below {B n : Nat} {w w' : World} (h : Only B w w') (h1 : n ≤ B) (h2 : n ≤ w.heap.size) : Below n w w' := ⟨h.os, h.tape, h.output, h.size, fun k hk => h.block k (by omega) (by omega)⟩
theorem Only.grown {B n : Nat} {w w' : World} {row : Option Nat} (hg : w.grownBy w' row) (hr : ∀ k, row = some k → n ≤ k) {a : World} (h : Only B a w) (hn : a.heap.size ≤ n) : Only B a w' :=
  ⟨hg.os.trans h.os, hg.tape.trans h.tape, hg.output.trans h.output, Nat.le_trans h.size hg.size, fun k hk hB => (hg.block k (Nat.lt_of_lt_of_le hk h.size) (fun e => by have := hr k e.symm; omega)).trans (h.block k hk hB)⟩
theorem Only.cell {B : Nat} {w w' : World} (h : Only B w w') {b off : Nat} {u : Value} (hc : w.cell? ⟨b, off, none⟩ = some u) (hn : b ≠ B) : w'.cell? ⟨b, off, none⟩ = some u :=
  (World.cell?_of_block (w := w) (h.block b (World.block_lt_of_cell? w _ hc) hn)).trans hc

/-- .. and its block is new too, be it empty. -/
def IntOwn (B : Nat) (w : World) (v : Value) (l : List Int) : Prop := IntNew B w v l ∧ ∀ g, v.ownBlock = some g → B ≤ g ∧ g < w.heap.size
theorem owns_own {w : World} {base : Nat} {e : TypeId} {v : Value} {l : List Int} (h : w.ownsRow base e 1 v l.length (l.map (Value.int .i64))) : IntOwn base w v l := ⟨owns_int h, fun g hg => h.lt g hg⟩

theorem IntAt.only {B : Nat} {w w' : World} {v : Value} {l : List Int} {ao : Option Addr} {b off cap : Nat} (h : SlAt w 1 IntC v l ao b off cap) (ho : Only B w w') (hn : b ≠ B) : SlAt w' 1 IntC v l ao b off cap :=
  ⟨h.hv, h.ha, h.hn, fun k x hx => ho.cell (h.hc k x hx) hn⟩

theorem erase_take {l : List Int} {at' : Nat} (_h : at' < l.length) : l.eraseIdx at' = l.take at' ++ l.drop (at' + 1) := List.eraseIdx_eq_take_drop_succ ..

end Go.Proofs.YtomijmikkbhgmaaGreat

namespace Go.Proofs.YtomijmikkbhgmaaGreat
open Go.RowKit

theorem Ev4C.lt {w : World} {b off : Nat} {x : Evt} (h : Ev4C w b off x) : b < w.heap.size := World.block_lt_of_cell? w _ h.c0
theorem Ev9C.lt {w : World} {b off : Nat} {x : Evt} (h : Ev9C w b off x) : b < w.heap.size := World.block_lt_of_cell? w _ h.c0

theorem wrs_hit {x : Evt} {loc : Int} (h1 : (x.kind == 1) = true) (h2 : (x.loc == loc) = true) (E : List Evt) (k : Nat) : wrs (x :: E) k loc = (k : Int) :: wrs E (k + 1) loc := by rw [wrs, h1, h2]; rfl
theorem wrs_mis {x : Evt} {loc : Int} (h : (x.kind == 1 && x.loc == loc) = false) (E : List Evt) (k : Nat) : wrs (x :: E) k loc = wrs E (k + 1) loc := by rw [wrs, h]; rfl

set_option maxHeartbeats 1000000 in
theorem writesP_any (E : List Evt) (hE : E.length ≤ 96) (loc : Int) (v : Value) (w : World) (h : Ev4At w v E) :
    Calls Tryz.prog 133 #[v, .int .i64 loc] w fun e w' => ∃ u, e = .returned u ∧ IntNew w.heap.size w' u (wrs E 0 loc) ∧ Below w.heap.size w w' := by
  obtain ⟨ao, b, off, cap, hv, ha, _, hc⟩ := h
  subst hv
  obtain ⟨i0, hi, hz0, hz1, hz2⟩ := info_parts Tryz.info3
  have HI : Hid (Tryz.prog.info? 3 = some i0 ∧ i0.zero = some (.int .i64 0) ∧ i0.size = 1 ∧ i0.bytes = 8) := ⟨hi, hz0, hz1, hz2⟩
  clear hi hz0 hz1 hz2
  go_enter Tryz.func133, Tryz.ntmps133
  go_wp2_with fail
  go_loopw [5, 10] (fun u i wr => ∃ (k : Nat) (xs : List Int), k ≤ E.length ∧ i = .int .i64 k ∧ xs.length ≤ k ∧ Hid (wrs E 0 loc = xs ++ wrs (E.drop k) k loc) ∧ wr.ownsRow w.heap.size 3 1 u xs.length (xs.map (Value.int .i64)) ∧ Below w.heap.size w wr) (fun _ i _ => E.length - (intOf i).toNat)
  case atStart => exact ⟨0, [], Nat.zero_le _, rfl, Nat.le_refl _, rfl, World.ownsRow_nil _ _ _ _, Below.refl _ _⟩
  case round =>
    obtain ⟨k, xs, hk, rfl, hxk, hn, hown, hb⟩ := hrel
    by_cases hlt : k < E.length
    · obtain ⟨x, hx⟩ := get_of_lt hlt
      have hC := hc k x hx
      have hbl := hC.lt
      obtain rfl := ha (ne_nil hlt)
      obtain ⟨c0, c1, c2, c3⟩ := ev4C_keeps _ _ _ _ _ hb hC
      have HN : Hid (wrs E 0 loc = xs ++ wrs (x :: E.drop (k + 1)) k loc) := by rw [← drop_cons hx]; exact hn
      have hsz := hb.size
      clear hn hx hc hC ha
      cases h1 : x.kind == 1
      · have HM : Hid (wrs E 0 loc = xs ++ wrs (E.drop (k + 1)) (k + 1) loc) := HN.out.trans (by rw [wrs_mis (by rw [h1]; rfl)])
        go_wp2_with fail
        go_roundw
        case measure => simp [intOf]; omega
        case rel => exact ⟨k + 1, xs, by omega, by go_num, by omega, HM.out, hown.alloc _, hb.alloc hb.size _⟩
      · cases h2 : x.loc == loc
        · have HM : Hid (wrs E 0 loc = xs ++ wrs (E.drop (k + 1)) (k + 1) loc) := HN.out.trans (by rw [wrs_mis (by rw [h1, h2]; rfl)])
          go_wp2_with fail
          go_roundw
          case measure => simp [intOf]; omega
          case rel => exact ⟨k + 1, xs, by omega, by go_num, by omega, HM.out, hown.alloc _, hb.alloc hb.size _⟩
        · have HM : Hid (wrs E 0 loc = (xs ++ [(k : Int)]) ++ wrs (E.drop (k + 1)) (k + 1) loc) := HN.out.trans (by rw [wrs_hit h1 h2]; simp)
          go_wp2_with (at_builtin; refine wpList_append_own _ rfl _ _ 26 rfl w.heap.size 3 i0 (.int .i64 0) 1 8 Tryz.underlying26 HI.out.1 HI.out.2.1 HI.out.2.2.1 HI.out.2.2.2 rfl (by decide) _ _ _ rfl ((hown.alloc _).alloc _) ⟨wr.heap.size + 1, 0, none⟩ 1 1 [.int .i64 k] rfl rfl (new_one (by simp)) (by simp [Value.oneCell']) (by unfold maxLen; omega) (by omega) (by simp; omega) ?_)
          intro u' w1 hown' hgrow _
          have hb' : Below w.heap.size w w1 := Below.grown ((hb.alloc hsz _).alloc (by simp; omega) _) hgrow (by simp; omega) (fun kk e => (hown.lt kk e).1)
          clear hgrow hown
          go_wp2_with fail
          go_roundw
          case measure => simp [intOf]; omega
          case rel => exact ⟨k + 1, xs ++ [(k : Int)], by omega, by go_num, by simp; omega, HM.out, own_snoc hown', hb'⟩
    · have HM : Hid (wrs E 0 loc = xs) := hn.out.trans (by rw [drop_nil hlt]; simp [wrs])
      clear hn hc ha
      go_wp2_with fail
      go_ret
      exact ⟨_, rfl, by rw [HM.out]; exact owns_int hown, hb⟩

set_option maxHeartbeats 1000000 in
theorem writesR_any (E : List Evt) (hE : E.length ≤ 96) (loc : Int) (v : Value) (w : World) (h : Ev9At w v E) :
    Calls Tryz.prog 109 #[v, .int .i64 loc] w fun e w' => ∃ u, e = .returned u ∧ IntNew w.heap.size w' u (wrs E 0 loc) ∧ Below w.heap.size w w' := by
  obtain ⟨ao, b, off, cap, hv, ha, _, hc⟩ := h
  subst hv
  obtain ⟨i0, hi, hz0, hz1, hz2⟩ := info_parts Tryz.info3
  have HI : Hid (Tryz.prog.info? 3 = some i0 ∧ i0.zero = some (.int .i64 0) ∧ i0.size = 1 ∧ i0.bytes = 8) := ⟨hi, hz0, hz1, hz2⟩
  clear hi hz0 hz1 hz2
  go_enter Tryz.func109, Tryz.ntmps109
  go_wp2_with fail
  go_loopw [5, 6] (fun u i wr => ∃ (k : Nat) (xs : List Int), k ≤ E.length ∧ i = .int .i64 k ∧ xs.length ≤ k ∧ Hid (wrs E 0 loc = xs ++ wrs (E.drop k) k loc) ∧ wr.ownsRow w.heap.size 3 1 u xs.length (xs.map (Value.int .i64)) ∧ Below w.heap.size w wr) (fun _ i _ => E.length - (intOf i).toNat)
  case atStart => exact ⟨0, [], Nat.zero_le _, rfl, Nat.le_refl _, rfl, World.ownsRow_nil _ _ _ _, Below.refl _ _⟩
  case round =>
    obtain ⟨k, xs, hk, rfl, hxk, hn, hown, hb⟩ := hrel
    by_cases hlt : k < E.length
    · obtain ⟨x, hx⟩ := get_of_lt hlt
      have hC := hc k x hx
      have hbl := hC.lt
      obtain rfl := ha (ne_nil hlt)
      obtain ⟨_, _, c2, c3, _, _, _, _, _⟩ := ev9C_keeps _ _ _ _ _ hb hC
      have HN : Hid (wrs E 0 loc = xs ++ wrs (x :: E.drop (k + 1)) k loc) := by rw [← drop_cons hx]; exact hn
      have hsz := hb.size
      clear hn hx hc hC ha
      cases h1 : x.kind == 1
      · have HM : Hid (wrs E 0 loc = xs ++ wrs (E.drop (k + 1)) (k + 1) loc) := HN.out.trans (by rw [wrs_mis (by rw [h1]; rfl)])
        go_wp2_with fail
        go_roundw
        case measure => simp [intOf]; omega
        case rel => exact ⟨k + 1, xs, by omega, by go_num, by omega, HM.out, hown, hb⟩
      · cases h2 : x.loc == loc
        · have HM : Hid (wrs E 0 loc = xs ++ wrs (E.drop (k + 1)) (k + 1) loc) := HN.out.trans (by rw [wrs_mis (by rw [h1, h2]; rfl)])
          go_wp2_with fail
          go_roundw
          case measure => simp [intOf]; omega
          case rel => exact ⟨k + 1, xs, by omega, by go_num, by omega, HM.out, hown, hb⟩
        · have HM : Hid (wrs E 0 loc = (xs ++ [(k : Int)]) ++ wrs (E.drop (k + 1)) (k + 1) loc) := HN.out.trans (by rw [wrs_hit h1 h2]; simp)
          go_wp2_with (at_builtin; refine wpList_append_own _ rfl _ _ 26 rfl w.heap.size 3 i0 (.int .i64 0) 1 8 Tryz.underlying26 HI.out.1 HI.out.2.1 HI.out.2.2.1 HI.out.2.2.2 rfl (by decide) _ _ _ rfl (hown.alloc _) ⟨wr.heap.size, 0, none⟩ 1 1 [.int .i64 k] rfl rfl (new_one rfl) (by simp [Value.oneCell']) (by unfold maxLen; omega) (by omega) (by simp; omega) ?_)
          intro u' w1 hown' hgrow _
          have hb' : Below w.heap.size w w1 := Below.grown (hb.alloc hsz _) hgrow (by simp; omega) (fun kk e => (hown.lt kk e).1)
          clear hgrow hown
          go_wp2_with fail
          go_roundw
          case measure => simp [intOf]; omega
          case rel => exact ⟨k + 1, xs ++ [(k : Int)], by omega, by go_num, by simp; omega, HM.out, own_snoc hown', hb'⟩
    · have HM : Hid (wrs E 0 loc = xs) := hn.out.trans (by rw [drop_nil hlt]; simp [wrs])
      clear hn hc ha
      go_wp2_with fail
      go_ret
      exact ⟨_, rfl, by rw [HM.out]; exact owns_int hown, hb⟩

end Go.Proofs.YtomijmikkbhgmaaGreat
