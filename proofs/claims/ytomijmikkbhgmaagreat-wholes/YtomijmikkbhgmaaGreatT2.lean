import Derived.Test.YtomijmikkbhgmaaGreatT1
import Derived.ProofKit
import Derived.SizedLaws
import Derived.Lib.SmallJoins
import Derived.Deep.Slices
import Derived.Deep.Light
import Derived.Test.YtomijmikkbhgmaaGreatRows
import Derived.ArgAppend
import Derived.Laws.AppendOwnNone
namespace Go.Proofs.YtomijmikkbhgmaaGreat
open Go.ChangeShapes Go.WideShapes Go.ChangeAt Go.RowKit Go.Deep

theorem Tryz.cellsTest : Tryz.prog.cellsOf 25 = 3 := by kernel_rfl
theorem Tryz.cellsInstrs : Tryz.prog.cellsOf 46 = 1 := by kernel_rfl
theorem Tryz.cellsAtom : Tryz.prog.cellsOf 104 = 3 := by kernel_rfl
theorem Tryz.cellsInstr : Tryz.prog.cellsOf 48 = 5 := by kernel_rfl
theorem Tryz.cellsInt : Tryz.prog.cellsOf 3 = 1 := by kernel_rfl
theorem Tryz.bytesInstrs : Tryz.prog.bytesOf 46 = 24 := by kernel_rfl
theorem Tryz.bytesAtom : Tryz.prog.bytesOf 104 = 24 := by kernel_rfl
theorem Tryz.bytesInstr : Tryz.prog.bytesOf 48 = 40 := by kernel_rfl

section
variable {H : Type} {enc : TypeId × Value → H} {w : World}

theorem cells_get {base : Nat} {a : Addr} {n : Nat} {cs : List Value} (h : w.cells? base a n = some cs) : cs.length = n ∧ ∀ i v, cs[i]? = some v → w.cell? (a.add i) = some v := by
  unfold World.cells? at h
  split at h
  · have hl := mapM_some_length h
    simp at hl
    refine ⟨hl, fun i v hv => ?_⟩
    have hi : i < n := by have := (List.getElem?_eq_some_iff.1 hv).1; omega
    have := mapM_some_get h i i (by simp [hi])
    rw [this]; exact hv
  · simp at h

set_option maxRecDepth 100000 in
theorem open_instr {fuel : Nat} {cs : List Value} {x : DataW H × List MemPlace} (h : DataW.trod enc Tryz.prog w 0 (fun _ => true) true fuel 48 cs = some x) :
    ∃ i : Ins, cs = [.int .i64 i.op, .int .i64 i.loc, .int .i64 i.reg, .int .i64 i.val, .int .i64 i.mode] := by
  obtain ⟨xs, n, _, _, hl, hx, hf⟩ := DataW.trod_struct Tryz.underlying48 h
  rw [Tryz.cellsInstr] at hl
  match cs, hl with
  | [v0, v1, v2, v3, v4], _ =>
    have hxs : xs.length = 5 := hx
    match xs, hxs with
    | [x0, x1, x2, x3, x4], _ =>
      have h0 : DataW.trod enc Tryz.prog w 0 (fun _ => true) true n 3 (([v0, v1, v2, v3, v4].drop 0).take (Tryz.prog.cellsOf 3)) = some x0 := hf 0 _ rfl
      have h1 : DataW.trod enc Tryz.prog w 0 (fun _ => true) true n 3 (([v0, v1, v2, v3, v4].drop 1).take (Tryz.prog.cellsOf 3)) = some x1 := hf 1 _ rfl
      have h2 : DataW.trod enc Tryz.prog w 0 (fun _ => true) true n 3 (([v0, v1, v2, v3, v4].drop 2).take (Tryz.prog.cellsOf 3)) = some x2 := hf 2 _ rfl
      have h3 : DataW.trod enc Tryz.prog w 0 (fun _ => true) true n 3 (([v0, v1, v2, v3, v4].drop 3).take (Tryz.prog.cellsOf 3)) = some x3 := hf 3 _ rfl
      have h4 : DataW.trod enc Tryz.prog w 0 (fun _ => true) true n 3 (([v0, v1, v2, v3, v4].drop 4).take (Tryz.prog.cellsOf 3)) = some x4 := hf 4 _ rfl
      rw [Tryz.cellsInt] at h0 h1 h2 h3 h4
      obtain ⟨a0, e0, _, _⟩ := DataW.trod_int Tryz.underlying3 h0
      obtain ⟨a1, e1, _, _⟩ := DataW.trod_int Tryz.underlying3 h1
      obtain ⟨a2, e2, _, _⟩ := DataW.trod_int Tryz.underlying3 h2
      obtain ⟨a3, e3, _, _⟩ := DataW.trod_int Tryz.underlying3 h3
      obtain ⟨a4, e4, _, _⟩ := DataW.trod_int Tryz.underlying3 h4
      simp at e0 e1 e2 e3 e4
      subst e0 e1 e2 e3 e4
      exact ⟨⟨a0, a1, a2, a3, a4⟩, rfl⟩

set_option maxRecDepth 100000 in
theorem open_atm {fuel : Nat} {cs : List Value} {x : DataW H × List MemPlace} (h : DataW.trod enc Tryz.prog w 0 (fun _ => true) true fuel 104 cs = some x) :
    ∃ i : Atm, cs = [.int .i64 i.thread, .int .i64 i.at', .int .i64 i.val] := by
  obtain ⟨xs, n, _, _, hl, hx, hf⟩ := DataW.trod_struct Tryz.underlying104 h
  rw [Tryz.cellsAtom] at hl
  match cs, hl with
  | [v0, v1, v2], _ =>
    have hxs : xs.length = 3 := hx
    match xs, hxs with
    | [x0, x1, x2], _ =>
      have h0 : DataW.trod enc Tryz.prog w 0 (fun _ => true) true n 3 (([v0, v1, v2].drop 0).take (Tryz.prog.cellsOf 3)) = some x0 := hf 0 _ rfl
      have h1 : DataW.trod enc Tryz.prog w 0 (fun _ => true) true n 3 (([v0, v1, v2].drop 1).take (Tryz.prog.cellsOf 3)) = some x1 := hf 1 _ rfl
      have h2 : DataW.trod enc Tryz.prog w 0 (fun _ => true) true n 3 (([v0, v1, v2].drop 2).take (Tryz.prog.cellsOf 3)) = some x2 := hf 2 _ rfl
      rw [Tryz.cellsInt] at h0 h1 h2
      obtain ⟨a0, e0, _, _⟩ := DataW.trod_int Tryz.underlying3 h0
      obtain ⟨a1, e1, _, _⟩ := DataW.trod_int Tryz.underlying3 h1
      obtain ⟨a2, e2, _, _⟩ := DataW.trod_int Tryz.underlying3 h2
      simp at e0 e1 e2
      subst e0 e1 e2
      exact ⟨⟨a0, a1, a2⟩, rfl⟩

/-- A slice of elements of s cells, each of which can be told by 'C'. -/
theorem open_sl {α : Type} (dflt : α) {C : World → Nat → Nat → α → Prop} {t e : TypeId} {s : Nat} (hs0 : 0 < s) (ht : Tryz.prog.underlying t = some (.slice e)) (hs : Tryz.prog.cellsOf e = s)
    (ok : DataW H → Prop)
    (hel : ∀ fuel cs x, DataW.trod enc Tryz.prog w 0 (fun _ => true) true fuel e cs = some x → ok x.1 → ∃ i : α, ∀ b off, (∀ j u, cs[j]? = some u → w.cell? ⟨b, off + j, none⟩ = some u) → C w b off i)
    {fuel : Nat} {v : Value} {x : DataW H × List MemPlace} (h : DataW.trod enc Tryz.prog w 0 (fun _ => true) true fuel t [v] = some x)
    (hok : ∀ el sp, x.1 = .slice el sp → ∀ d ∈ el, ok d) :
    ∃ (l : List α) (ao : Option Addr) (b off cap : Nat), SlAt w s C v l ao b off cap ∧ (x.1 = .nil ∧ l = [] ∨ ∃ el sp, x.1 = .slice el sp ∧ el.length = l.length) := by
  rcases open_slice ht h with ⟨hcs, hx⟩ | ⟨a, len, cap, m, n, D, Pl, hcs, _, hlc, _, hm, hx, hD⟩
  · simp at hcs
    subst hcs
    exact ⟨[], none, 0, 0, 0, ⟨rfl, fun h => absurd rfl h, fun _ => ⟨rfl, rfl⟩, fun k x h => by simp at h⟩, .inl ⟨by rw [hx], rfl⟩⟩
  · simp at hcs hm
    subst hcs hm
    rw [hs] at hD
    have hx1 : x.1 = .slice ((List.range len).map D) ((List.range (m - len)).map fun j => D (len + j)) := by rw [hx]
    have hch : ∀ i, i < len → ∃ y : α, ∀ (_ : a.spot = none), C w a.block (a.off + i * s) y := by
      intro i hi
      obtain ⟨cs', h1, h2⟩ := hD i (by omega)
      obtain ⟨y, hy⟩ := hel _ _ _ h2 (hok _ _ hx1 (D i) (List.mem_map.2 ⟨i, by simpa using hi, rfl⟩))
      refine ⟨y, fun hsp => hy _ _ fun j u hj => ?_⟩
      have := (cells_get h1).2 j u hj
      rw [add_add] at this
      obtain ⟨ab, aoff, asp⟩ := a
      simp at hsp
      subst hsp
      rw [Addr.add_lit] at this
      rw [Nat.add_assoc]; exact this
    have hspot : 0 < len → a.spot = none := by
      intro hl
      obtain ⟨cs', h1, _⟩ := hD 0 (by omega)
      obtain ⟨hcl, hcg⟩ := cells_get h1
      have := hcg 0 (cs'[0]'(by omega)) (by simp)
      have hsp := World.cell?_spot this
      obtain ⟨ab, aoff, asp⟩ := a
      simpa [Addr.add] using hsp
    obtain ⟨f, hf⟩ := @choose_lt α ⟨dflt⟩ _ _ hch
    refine ⟨(List.range len).map f, some a, a.block, a.off, m, ⟨by simp, ?_, fun h => by simp at h, ?_⟩, .inr ⟨_, _, hx1, by simp⟩⟩
    · intro hne
      have hl : 0 < len := by
        rcases Nat.eq_zero_or_pos len with h0 | h0
        · subst h0; simp at hne
        · exact h0
      have hsp := hspot hl
      obtain ⟨ab, aoff, asp⟩ := a
      simp at hsp
      simp [hsp]
    · intro k y hk
      have hkl : k < len := by have := (List.getElem?_eq_some_iff.1 hk).1; simpa using this
      have hy : f k = y := by simpa [hkl] using hk
      rw [← hy]
      exact hf k hkl (hspot (by omega))

theorem weights_all {P : Program} {e : TypeId} {l : List (DataW H)} {d : DataW H} (hd : d ∈ l) : ∀ n ∈ d.weights P e, n ∈ DataW.weightsAll P e l := by
  intro n hn
  induction l with
  | nil => simp at hd
  | cons a l ih =>
    simp only [DataW.weightsAll, List.mem_append]
    rcases List.mem_cons.1 hd with rfl | h
    · exact .inl hn
    · exact .inr (ih h)

theorem weights_slice {P : Program} {t e : TypeId} (ht : P.underlying t = some (.slice e)) {el sp : List (DataW H)} (h : ∀ n ∈ (DataW.slice el sp).weights P t, n ≤ reachBytes) :
    el.length * P.bytesOf e ≤ reachBytes ∧ ∀ d ∈ el, ∀ n ∈ d.weights P e, n ≤ reachBytes := by
  simp only [DataW.weights, ht, List.mem_cons, List.mem_append] at h
  refine ⟨?_, fun d hd n hn => h n (.inr (.inl (weights_all hd n hn)))⟩
  have := h _ (.inl rfl)
  exact Nat.le_trans (Nat.mul_le_mul_right _ (by omega)) this

theorem open_ins {fuel : Nat} {v : Value} {x : DataW H × List MemPlace} (h : DataW.trod enc Tryz.prog w 0 (fun _ => true) true fuel 46 [v] = some x) (hw : ∀ n ∈ x.1.weights Tryz.prog 46, n ≤ reachBytes) : ∃ l, InsAt w v l := by
  obtain ⟨l, ao, b, off, cap, hs, hl⟩ := open_sl (α := Ins) ⟨0, 0, 0, 0, 0⟩ (C := InsC) (s := 5) (by decide) Tryz.underlying46 Tryz.cellsInstr (fun _ => True)
    (fun fuel cs x hx _ => by
      obtain ⟨i, rfl⟩ := open_instr hx
      exact ⟨i, fun b off hc => ⟨hc 0 _ rfl, hc 1 _ rfl, hc 2 _ rfl, hc 3 _ rfl, hc 4 _ rfl⟩⟩) h (fun _ _ _ _ _ => trivial)
  refine ⟨l, ?_, ao, b, off, cap, hs⟩
  rcases hl with ⟨_, rfl⟩ | ⟨el, sp, e, hel⟩
  · simp
  · rw [e] at hw
    have := (weights_slice Tryz.underlying46 hw).1
    rw [Tryz.bytesInstr, hel, reachBytes] at this
    omega

theorem open_atms {fuel : Nat} {v : Value} {x : DataW H × List MemPlace} (h : DataW.trod enc Tryz.prog w 0 (fun _ => true) true fuel 23 [v] = some x) (hw : ∀ n ∈ x.1.weights Tryz.prog 23, n ≤ reachBytes) : ∃ l, AtmAt w v l := by
  obtain ⟨l, ao, b, off, cap, hs, hl⟩ := open_sl (α := Atm) ⟨0, 0, 0⟩ (C := AtmC) (s := 3) (by decide) Tryz.underlying23 Tryz.cellsAtom (fun _ => True)
    (fun fuel cs x hx _ => by
      obtain ⟨i, rfl⟩ := open_atm hx
      exact ⟨i, fun b off hc => ⟨hc 0 _ rfl, hc 1 _ rfl, hc 2 _ rfl⟩⟩) h (fun _ _ _ _ _ => trivial)
  refine ⟨l, ?_, ao, b, off, cap, hs⟩
  rcases hl with ⟨_, rfl⟩ | ⟨el, sp, e, hel⟩
  · simp
  · rw [e] at hw
    have := (weights_slice Tryz.underlying23 hw).1
    rw [Tryz.bytesAtom, hel, reachBytes] at this
    omega

theorem open_thr {fuel : Nat} {v : Value} {x : DataW H × List MemPlace} (h : DataW.trod enc Tryz.prog w 0 (fun _ => true) true fuel 22 [v] = some x) (hw : ∀ n ∈ x.1.weights Tryz.prog 22, n ≤ reachBytes) : ∃ T, ThrAt w v T := by
  obtain ⟨l, ao, b, off, cap, hs, hl⟩ := open_sl (α := List Ins) [] (C := ThrC) (s := 1) (by decide) Tryz.underlying22 Tryz.cellsInstrs (fun d => ∀ n ∈ d.weights Tryz.prog 46, n ≤ reachBytes)
    (fun fuel cs x hx hok => by
      have hform : ∃ u, cs = [u] := by
        rcases open_slice Tryz.underlying46 hx with ⟨hcs, _⟩ | ⟨a, len, cap, m, n, D, Pl, hcs, _⟩
        · exact ⟨_, hcs⟩
        · exact ⟨_, hcs⟩
      obtain ⟨u, rfl⟩ := hform
      obtain ⟨l, hl⟩ := open_ins hx hok
      exact ⟨l, fun b off hc => ⟨u, hc 0 _ rfl, hl⟩⟩) h (fun el sp e d hd => by rw [e] at hw; exact (weights_slice Tryz.underlying22 hw).2 d hd)
  refine ⟨l, ?_, ao, b, off, cap, hs⟩
  rcases hl with ⟨_, rfl⟩ | ⟨el, sp, e, hel⟩
  · simp
  · rw [e] at hw
    have := (weights_slice Tryz.underlying22 hw).1
    rw [Tryz.bytesInstrs, hel, reachBytes] at this
    omega

set_option maxRecDepth 100000 in
/-- An argument of type api.Test. -/
theorem open_test {r : Reach} {b0 : Nat} {v : Value} {d : DataW H} {p : List MemPlace} (hv : Value.okWide Tryz.prog w r b0 25 v) (h : DataW.Trod enc Tryz.prog w 0 (fun _ => true) true 25 v d p)
    (hw : ∀ n ∈ d.weights Tryz.prog 25, n ≤ reachBytes) : ∃ T fa c vt vc, TestAt w v T fa c vt vc := by
  obtain ⟨c0, c1, c2, y0, y1, y2, n, rfl, rfl, rfl, h0, h1, h2⟩ := Joins.open_agg3 Tryz.underlying25 (by kernel_rfl) Tryz.cellsTest hv h
  have hwe : ∀ n ∈ DataW.weightsEach Tryz.prog [22, 4, 23] [y0.1, y1.1, y2.1], n ≤ reachBytes := by
    intro n hn
    refine hw n ?_
    simp only [DataW.weights, Tryz.underlying25]
    exact hn
  obtain ⟨T, hT⟩ := open_thr h0 (fun n hn => hwe n (DataW.weights_mem_each (j := 0) rfl rfl n hn))
  obtain ⟨fa, e1, _⟩ := DataW.trod_bool Tryz.underlying4 h1
  simp at e1
  subst e1
  obtain ⟨c, hc⟩ := open_atms h2 (fun n hn => hwe n (DataW.weights_mem_each (j := 2) rfl rfl n hn))
  exact ⟨T, fa, c, c0, c2, rfl, hT, hc⟩
end

end Go.Proofs.YtomijmikkbhgmaaGreat

namespace Go.Proofs.YtomijmikkbhgmaaGreat

theorem Tryz.own : ownKnob Tryz.prog.godebug = none := by kernel_rfl
theorem Tryz.laidOut : laidOutB Tryz.prog = true := by kernel_rfl

end Go.Proofs.YtomijmikkbhgmaaGreat

namespace Go.Proofs.YtomijmikkbhgmaaGreat
open Go.RowKit

theorem intAt_nil (w : World) (B : Nat) : IntNew B w (.slice none 0 0) [] := ⟨none, B, 0, 0, ⟨rfl, fun h => absurd rfl h, fun _ => ⟨rfl, rfl⟩, fun k x h => by simp at h⟩, Nat.le_refl _, Nat.le_refl _⟩

theorem intAt_one (w : World) (a : Int) (t : TypeId) : IntNew w.heap.size (w.alloc (.cells #[.int .i64 a] t)) (.slice (some ⟨w.heap.size, 0, none⟩) 1 1) [a] :=
  ⟨_, w.heap.size, 0, 1, ⟨rfl, fun _ => rfl, fun h => by simp at h, fun k x h => by
    match k, h with
    | 0, h => simp at h; subst h; simp [IntC]⟩, Nat.le_refl _, Nat.le_refl _⟩

theorem intAt_two (w : World) (a b : Int) (t : TypeId) : IntNew w.heap.size (w.alloc (.cells #[.int .i64 a, .int .i64 b] t)) (.slice (some ⟨w.heap.size, 0, none⟩) 2 2) [a, b] :=
  ⟨_, w.heap.size, 0, 2, ⟨rfl, fun _ => rfl, fun h => by simp at h, fun k x h => by
    match k, h with
    | 0, h => simp at h; subst h; simp [IntC]
    | 1, h => simp at h; subst h; simp [IntC]⟩, Nat.le_refl _, Nat.le_refl _⟩

theorem IntNew.of {B : Nat} {w : World} {v : Value} {l m : List Int} (h : IntNew B w v l) (e : m = l) : IntNew B w v m := by rw [e]; exact h

set_option maxHeartbeats 1000000 in
theorem kindsR_any (op : Int) (w : World) :
    Calls Tryz.prog 79 #[.int .i64 op] w fun e w' => ∃ v, e = .returned v ∧ IntNew w.heap.size w' v (kindsOf op) ∧ Below w.heap.size w w' := by
  go_enter Tryz.func79, Tryz.ntmps79
  go_wp2
  all_goals go_ret
  all_goals first
    | exact ⟨_, rfl, (intAt_one _ _ _).of (by simp [kindsOf, *]), below_alloc _ _⟩
    | exact ⟨_, rfl, (intAt_two _ _ _ _).of (by simp [kindsOf, *]), below_alloc _ _⟩
    | exact ⟨_, rfl, (intAt_nil _ _).of (by simp [kindsOf, *]), Below.refl _ _⟩

set_option maxHeartbeats 1000000 in
theorem kindsP_any (op : Int) (w : World) :
    Calls Tryz.prog 72 #[.int .i64 op] w fun e w' => ∃ v, e = .returned v ∧ IntNew w.heap.size w' v (kindsOf op) ∧ Below w.heap.size w w' := by
  go_enter Tryz.func72, Tryz.ntmps72
  go_wp2
  all_goals go_ret
  all_goals first
    | exact ⟨_, rfl, (intAt_one _ _ _).of (by simp [kindsOf, *]), below_alloc _ _⟩
    | exact ⟨_, rfl, (intAt_two _ _ _ _).of (by simp [kindsOf, *]), below_alloc _ _⟩
    | exact ⟨_, rfl, (intAt_nil _ _).of (by simp [kindsOf, *]), Below.refl _ _⟩

end Go.Proofs.YtomijmikkbhgmaaGreat

namespace Go.Proofs.YtomijmikkbhgmaaGreat
open Go.RowKit

theorem Tryz.info3 : (Tryz.prog.info? 3).map (fun i => (i.zero, i.size, i.bytes)) = some (some (.int .i64 0), 1, 8) := by kernel_rfl

theorem own_keep {w w' : World} {base : Nat} {e : TypeId} {size : Nat} {v : Value} {n : Nat} {xs : List Value} (h : w.ownsRow base e size v n xs) (hb : Below w.heap.size w w') : w'.ownsRow base e size v n xs := by
  refine ⟨h.1, ?_⟩
  rcases h.2 with h2 | ⟨g, cap, cur, hv, hg, hh, r⟩
  · exact Or.inl h2
  · exact Or.inr ⟨g, cap, cur, hv, hg, by rw [hb.block g (Array.getElem?_eq_some_iff.1 hh).1]; exact hh, r⟩

/-- An entry of lists of s entries each, laid one behind the other. -/
theorem flat_get {α β : Type} (f : α → List β) (s : Nat) (hf : ∀ x, (f x).length = s) (l : List α) (k j : Nat) (x : α) (hx : l[k]? = some x) (hj : j < s) : (l.flatMap f)[k * s + j]? = (f x)[j]? := by
  induction l generalizing k with
  | nil => simp at hx
  | cons a l ih =>
    cases k with
    | zero => simp at hx; subst hx; rw [List.flatMap_cons, List.getElem?_append_left (by rw [hf]; omega)]; simp
    | succ k =>
      rw [List.flatMap_cons, List.getElem?_append_right (by rw [hf, Nat.add_mul]; omega), hf]
      rw [show (k + 1) * s + j - s = k * s + j by rw [Nat.add_mul]; omega]
      exact ih k (by simpa using hx)

theorem flat_len {α β : Type} (f : α → List β) (s : Nat) (hf : ∀ x, (f x).length = s) (l : List α) : (l.flatMap f).length = l.length * s := by
  induction l with
  | nil => simp
  | cons a l ih => rw [List.flatMap_cons, List.length_append, ih, hf, List.length_cons, Nat.add_mul]; omega

/-- What is owned, read as a list. -/
theorem owns_read {α : Type} {C : World → Nat → Nat → α → Prop} (f : α → List Value) (s : Nat) (hf : ∀ x, (f x).length = s)
    {w : World} (hC : ∀ b off x, (∀ j u, (f x)[j]? = some u → w.cell? ⟨b, off + j, none⟩ = some u) → C w b off x)
    {base : Nat} {e : TypeId} {v : Value} {l : List α} (h : w.ownsRow base e s v l.length (l.flatMap f)) : ∃ ao b off cap, SlAt w s C v l ao b off cap ∧ base ≤ b ∧ l.length ≤ cap := by
  rcases h.2 with ⟨rfl, hn⟩ | ⟨g, cap, cur, rfl, hg, hh, hnc, _, _, htake⟩
  · have : l = [] := List.eq_nil_of_length_eq_zero hn
    subst this
    exact ⟨none, base, 0, 0, ⟨rfl, fun h => absurd rfl h, fun _ => ⟨rfl, rfl⟩, fun k x h => by simp at h⟩, Nat.le_refl _, Nat.le_refl _⟩
  · refine ⟨_, g, 0, cap, ⟨rfl, fun _ => rfl, fun h => by simp at h, fun k x hx => hC _ _ _ fun j u hu => ?_⟩, hg, hnc⟩
    have hj : j < s := by have := (List.getElem?_eq_some_iff.1 hu).1; rw [hf] at this; exact this
    have := h.cells (g := g) rfl (k * s + j) u (by rw [flat_get f s hf l k j x hx hj]; exact hu)
    rw [Addr.add_lit] at this
    rw [Nat.zero_add] at this ⊢
    exact this

theorem flat_one (l : List Int) : l.flatMap (fun x => [Value.int .i64 x]) = l.map (Value.int .i64) := by
  induction l with
  | nil => rfl
  | cons a l ih => rw [List.flatMap_cons, ih]; rfl

theorem owns_int {w : World} {base : Nat} {e : TypeId} {v : Value} {l : List Int} (h : w.ownsRow base e 1 v l.length (l.map (Value.int .i64))) : IntNew base w v l := by
  refine owns_read (C := IntC) (fun x => [Value.int .i64 x]) 1 (fun _ => rfl) (fun b off x hx => ?_) (by rw [flat_one]; exact h)
  exact hx 0 _ rfl

theorem own_snoc {w : World} {base : Nat} {e : TypeId} {v : Value} {xs : List Int} {a : Int} (h : w.ownsRow base e 1 v (xs.length + 1) (xs.map (Value.int .i64) ++ [.int .i64 a])) :
    w.ownsRow base e 1 v (xs ++ [a]).length ((xs ++ [a]).map (Value.int .i64)) := by simpa using h

/-- The one new cell ahead of an append of one number. -/
theorem new_one {W : World} {v : Value} {t : TypeId} {n : Nat} (hn : n = W.heap.size) : ∀ j u, [v][j]? = some u → (W.alloc (.cells #[v] t)).cell? ((⟨n, 0, none⟩ : Addr).add j) = some u := by
  intro j u hj
  subst hn
  match j, hj with
  | 0, hj => simp at hj; subst hj; simp [Addr.add]

theorem own_base {w : World} {base base' : Nat} {e : TypeId} {size : Nat} {v : Value} {n : Nat} {xs : List Value} (h : w.ownsRow base e size v n xs) (hb : base' ≤ base) : w.ownsRow base' e size v n xs := by
  refine ⟨h.1, ?_⟩
  rcases h.2 with h2 | ⟨g, cap, cur, hv, hg, r⟩
  · exact Or.inl h2
  · exact Or.inr ⟨g, cap, cur, hv, by omega, r⟩

/-- append onto a row of the call's own, whatever is appended (nil, too); and the row behind it is the old one or a new one. -/
theorem run_append_new {P : Program} (w : World) (t ty : TypeId)
    (base : Nat) (e : TypeId) (i : TypeInfo) (z : Value) (size bytes : Nat) (ht : P.underlying t = some (.slice e)) (hi : P.info? e = some i) (hz : i.zero = some z)
    (hsize : i.size = size) (hby : i.bytes = bytes) (hzs : z.cells.size = size) (hsz : 0 < size)
    (v : Value) (n : Nat) (xs : List Value) (hown : w.ownsRow base e size v n xs)
    (ao : Option Addr) (m c : Nat) (news : List Value) (hnone : ao = none → m = 0 ∧ c = 0) (hl : news.length = m * size) (hnews : ∀ ad, ao = some ad → ∀ j u, news[j]? = some u → w.cell? (ad.add j) = some u) (h1 : ∀ u ∈ news, u.oneCell' = true)
    (h63 : n + m ≤ maxLen) (hbytes : (n + m) * bytes ≤ 140737488355328) (hbase : base ≤ w.heap.size) :
    ∃ v' w', (Builtin.append_ #[t, t] ty #[v, .slice ao m c]).run P w = .ok v' w' ∧ w'.ownsRow base e size v' (n + m) (xs ++ news) ∧ w.grownBy w' v.ownBlock ∧ (∀ g, v'.ownBlock = some g → v.ownBlock = some g ∨ w.heap.size ≤ g) := by
  cases ao with
  | none =>
    obtain ⟨rfl, rfl⟩ := hnone rfl
    have hn : news = [] := List.eq_nil_of_length_eq_zero (by simpa using hl)
    subst hn
    exact ⟨v, w, run_append_owned_none (P := P) (w := w) base t ty e i size ht hi v n xs hown, by simpa using hown, World.grownBy.refl _ _, fun g hg => .inl hg⟩
  | some ad =>
    rcases hown.2 with ⟨rfl, rfl⟩ | ⟨g, cap, cur, rfl, hbg, hg, hnc, hcm, hcs, htake⟩
    · have hx0 : xs = [] := List.eq_nil_of_length_eq_zero (by simpa using hown.1)
      subst hx0
      obtain ⟨v', w', hr, ho', hg', _⟩ := run_append_own (P := P) w w.heap.size t ty e i z size bytes ht hi hz hsize hby hzs hsz _ 0 [] (World.ownsRow_nil _ _ _ _) ad m c news hl (hnews ad rfl) h1 h63 hbytes (Nat.le_refl _)
      exact ⟨v', w', hr, own_base ho' hbase, hg', fun g hg => .inr (ho'.lt g hg).1⟩
    · by_cases hroom : n + m ≤ cap
      · obtain ⟨w', hr, ho', hg'⟩ := run_append_fits (P := P) w base t ty e i size ht hi hsize g n cap xs hown ad m c news hl (hnews ad rfl) h1 hroom
        exact ⟨_, w', hr, ho', hg', fun g' hg'' => .inl hg''⟩
      · obtain ⟨v', w', hr, ho', hg'⟩ := run_append_arg_grows (P := P) w t ty e i z size bytes ht hi hz hsize hby hzs hsz ⟨g, 0, none⟩ n cap xs hown.1 (hown.cells (g := g) rfl) ad m c news hl (hnews ad rfl) (by omega) h63 hbytes
        exact ⟨v', w', hr, own_base ho' hbase, ⟨hg'.os, hg'.tape, hg'.output, hg'.size, fun k hk _ => hg'.block k hk (by simp)⟩, fun g hg => .inr (ho'.lt g hg).1⟩

theorem append_new {P : Program} (w : World) {ops : Array Oper} {rest : List Oper} {o : Oper} {a : Act} {Q : Exit → Act → World → Prop} (hgd : o.guard = none) (s x : Operand) (t : TypeId)
    (ho : o.op = .call { callee := .builtin .append, args := #[s, x], argTypes := #[t, t] })
    (base : Nat) (e : TypeId) (i : TypeInfo) (z : Value) (size bytes : Nat) (ht : P.underlying t = some (.slice e)) (hi : P.info? e = some i) (hz : i.zero = some z)
    (hsize : i.size = size) (hby : i.bytes = bytes) (hzs : z.cells.size = size) (hsz : 0 < size)
    (v : Value) (n : Nat) (xs : List Value) (hs : a.eval s = v) (hown : w.ownsRow base e size v n xs)
    (ao : Option Addr) (m c : Nat) (news : List Value) (hx : a.eval x = .slice ao m c) (hnone : ao = none → m = 0 ∧ c = 0) (hl : news.length = m * size) (hnews : ∀ ad, ao = some ad → ∀ j u, news[j]? = some u → w.cell? (ad.add j) = some u) (h1 : ∀ u ∈ news, u.oneCell' = true)
    (h63 : n + m ≤ maxLen) (hbytes : (n + m) * bytes ≤ 140737488355328) (hbase : base ≤ w.heap.size)
    (h : ∀ v' w', w'.ownsRow base e size v' (n + m) (xs ++ news) → w.grownBy w' v.ownBlock → (∀ g, v'.ownBlock = some g → v.ownBlock = some g ∨ w.heap.size ≤ g) → wpList P ops Q rest (a.put o.dst v') w') : wpList P ops Q (o :: rest) a w := by
  refine wpList_plain hgd fun K hK => ?_
  obtain ⟨v', w', hr, h2, h3, h4⟩ := run_append_new (P := P) w t o.type base e i z size bytes ht hi hz hsize hby hzs hsz v n xs hown ao m c news hnone hl hnews h1 h63 hbytes hbase
  unfold Oper.wp
  simp [execOp, ho, resolve, invoke, builtin, hs, hx, hr, Result.andThen]
  exact hK _ _ (h v' w' h2 h3 h4)

/-- The same as one step of a region that draws its order. -/
theorem step_append_new {P : Program} {ops : Array Oper} {o : Oper} {a : Act} (w : World) {K : Act → World → Prop} {Q : Exit → Act → World → Prop} {E : Prop} (hgd : o.guard = none) (s x : Operand) (t : TypeId)
    (ho : o.op = .call { callee := .builtin .append, args := #[s, x], argTypes := #[t, t] })
    (base : Nat) (e : TypeId) (i : TypeInfo) (z : Value) (size bytes : Nat) (ht : P.underlying t = some (.slice e)) (hi : P.info? e = some i) (hz : i.zero = some z)
    (hsize : i.size = size) (hby : i.bytes = bytes) (hzs : z.cells.size = size) (hsz : 0 < size)
    (v : Value) (n : Nat) (xs : List Value) (hs : a.eval s = v) (hown : w.ownsRow base e size v n xs)
    (ao : Option Addr) (m c : Nat) (news : List Value) (hx : a.eval x = .slice ao m c) (hnone : ao = none → m = 0 ∧ c = 0) (hl : news.length = m * size) (hnews : ∀ ad, ao = some ad → ∀ j u, news[j]? = some u → w.cell? (ad.add j) = some u) (h1 : ∀ u ∈ news, u.oneCell' = true)
    (h63 : n + m ≤ maxLen) (hbytes : (n + m) * bytes ≤ 140737488355328) (hbase : base ≤ w.heap.size)
    (h : ∀ v' w', w'.ownsRow base e size v' (n + m) (xs ++ news) → w.grownBy w' v.ownBlock → (∀ g, v'.ownBlock = some g → v.ownBlock = some g ∨ w.heap.size ≤ g) → K (a.put o.dst v') w') :
    if Region.wanted o (yielded ops a.tmps) = true then Oper.wp P o a w K Q else E := by
  have hw : Region.wanted o (yielded ops a.tmps) = true := by simp [Region.wanted, hgd]
  rw [if_pos hw]
  obtain ⟨v', w', hr, h2, h3, h4⟩ := run_append_new (P := P) w t o.type base e i z size bytes ht hi hz hsize hby hzs hsz v n xs hown ao m c news hnone hl hnews h1 h63 hbytes hbase
  unfold Oper.wp
  simp [execOp, ho, resolve, invoke, builtin, hs, hx, hr, Result.andThen]
  exact h v' w' h2 h3 h4

/-- Since w0 nothing has turned but the row g0; and what is owned now is that row, or newer. -/
structure Aw (w0 wr : World) (g0 : Option Nat) (u : Value) : Prop where
  size : w0.heap.size ≤ wr.heap.size
  block : ∀ k, k < w0.heap.size → some k ≠ g0 → wr.heap[k]? = w0.heap[k]?
  own : ∀ g, u.ownBlock = some g → some g = g0 ∨ w0.heap.size ≤ g

theorem Aw.refl (w : World) (u : Value) : Aw w w u.ownBlock u := ⟨Nat.le_refl _, fun _ _ _ => rfl, fun _ h => .inl h.symm⟩
theorem Aw.below {w0 w1 w2 : World} {g0 : Option Nat} {u : Value} (h : Aw w0 w1 g0 u) (hb : Below w1.heap.size w1 w2) : Aw w0 w2 g0 u :=
  ⟨Nat.le_trans h.size hb.size, fun k hk hn => (hb.block k (Nat.lt_of_lt_of_le hk h.size)).trans (h.block k hk hn), h.own⟩
theorem Aw.grown {w0 w1 w2 : World} {g0 : Option Nat} {u u' : Value} (h : Aw w0 w1 g0 u) (hg : w1.grownBy w2 u.ownBlock) (hu : ∀ g, u'.ownBlock = some g → u.ownBlock = some g ∨ w1.heap.size ≤ g) : Aw w0 w2 g0 u' := by
  refine ⟨Nat.le_trans h.size hg.size, fun k hk hn => ?_, fun g hg' => ?_⟩
  · rw [hg.block k (Nat.lt_of_lt_of_le hk h.size) (fun e => ?_)]
    · exact h.block k hk hn
    · rcases h.own k e.symm with h' | h'
      · exact hn h'
      · omega
  · rcases hu g hg' with h' | h'
    · exact h.own g h'
    · exact .inr (Nat.le_trans h.size h')
theorem Aw.cell {w0 wr : World} {g0 : Option Nat} {u : Value} (h : Aw w0 wr g0 u) {b o : Nat} {v : Value} (hc : w0.cell? ⟨b, o, none⟩ = some v) (hn : some b ≠ g0) : wr.cell? ⟨b, o, none⟩ = some v :=
  (World.cell?_of_block (w := w0) (h.block b (World.block_lt_of_cell? w0 _ hc) hn)).trans hc

theorem own_one (w : World) (a : Int) (t : TypeId) : (w.alloc (.cells #[.int .i64 a] t)).ownsRow w.heap.size t 1 (.slice (some ⟨w.heap.size, 0, none⟩) 1 1) [a].length ([a].map (Value.int .i64)) :=
  ⟨rfl, .inr ⟨w.heap.size, 1, #[.int .i64 a], rfl, Nat.le_refl _, heap_alloc_new w _, Nat.le_refl _, by unfold maxLen; omega, rfl, rfl⟩⟩

end Go.Proofs.YtomijmikkbhgmaaGreat

namespace Go.Proofs.YtomijmikkbhgmaaGreat

def facL (E : List Evt) (j : Nat) : Nat := match j with
  | 0 => fac (wrs E 0 0).length * (fac (wrs E 0 1).length * fac (wrs E 0 2).length)
  | 1 => fac (wrs E 0 1).length * fac (wrs E 0 2).length
  | 2 => fac (wrs E 0 2).length
  | _ => 1

theorem facL_pos (E : List Evt) (j : Nat) : 1 ≤ facL E j := by
  have a := fac_pos (wrs E 0 0).length; have b := fac_pos (wrs E 0 1).length; have c := fac_pos (wrs E 0 2).length
  have bc := Nat.mul_le_mul b c
  have abc := Nat.mul_le_mul a bc
  unfold facL; split <;> omega

theorem facL_step (E : List Evt) (j : Nat) (h : j < 3) : facL E j = fac (wrs E 0 (j : Int)).length * facL E (j + 1) := by
  match j, h with
  | 0, _ => rfl
  | 1, _ => rfl
  | 2, _ => show fac _ = fac _ * 1; rw [Nat.mul_one]; rfl

theorem facL_three (E : List Evt) : facL E 3 = 1 := rfl
theorem sizeN_eq (E : List Evt) : sizeN E = prodR E E * facL E 0 := rfl

def prodUp : Nat → Nat → Nat
  | _, 0 => 1
  | k, c + 1 => k * prodUp (k + 1) c

theorem prodUp_pos (k c : Nat) (h : 1 ≤ k) : 1 ≤ prodUp k c := by
  induction c generalizing k with
  | zero => exact Nat.le_refl 1
  | succ c ih => have := Nat.mul_le_mul h (ih (k + 1) (by omega)); unfold prodUp; omega

theorem prodUp_fac (k c : Nat) : prodUp (k + 1) c * fac k = fac (k + c) := by
  induction c generalizing k with
  | zero => simp [prodUp]
  | succ c ih =>
    have := ih (k + 1)
    rw [show k + (c + 1) = k + 1 + c by omega, ← this, show fac (k + 1) = (k + 1) * fac k from rfl, show prodUp (k + 1) (c + 1) = (k + 1) * prodUp (k + 1 + 1) c from rfl]
    rw [Nat.mul_comm (k + 1) (prodUp (k + 1 + 1) c), Nat.mul_assoc]

theorem prodUp_two (m : Nat) : prodUp 2 (m + 1 - 2) = fac m := by
  cases m with
  | zero => rfl
  | succ m =>
    have := prodUp_fac 1 m
    rw [show m + 1 + 1 - 2 = m by omega]
    rw [show fac 1 = 1 from rfl, Nat.mul_one, Nat.add_comm 1 m] at this
    exact this

theorem prodUp_step {k m : Nat} (h : k ≤ m) : prodUp k (m + 1 - k) = k * prodUp (k + 1) (m + 1 - (k + 1)) := by
  rw [show m + 1 - k = (m + 1 - (k + 1)) + 1 by omega]; rfl

theorem prodUp_done {k m : Nat} (h : ¬ k ≤ m) : prodUp k (m + 1 - k) = 1 := by
  rw [show m + 1 - k = 0 by omega]; rfl

theorem cap2_big {n f : Nat} (h : 2000 < n) (hf : 1 ≤ f) : cap2 (n * f) = 2001 := by
  have := Nat.mul_le_mul_left n hf
  unfold cap2; rw [if_pos (by omega)]

theorem prodR_read {E : List Evt} {x : Evt} (h : (x.kind == 0) = true) (R : List Evt) : prodR E (x :: R) = (1 + (wrs E 0 x.loc).length) * prodR E R := by rw [prodR, if_pos h]
theorem prodR_not {E : List Evt} {x : Evt} (h : (x.kind == 0) = false) (R : List Evt) : prodR E (x :: R) = prodR E R := by rw [prodR, if_neg (by simp [h]), Nat.one_mul]

theorem mul_bd {n L a b : Nat} (hn : n ≤ a) (hL : L ≤ b) : (0 : Int) ≤ (n : Int) * (L : Int) ∧ (n : Int) * (L : Int) ≤ ((a * b : Nat) : Int) := by
  have h := Nat.mul_le_mul hn hL
  refine ⟨Int.mul_nonneg (by omega) (by omega), ?_⟩
  have : (n : Int) * (L : Int) = ((n * L : Nat) : Int) := by simp
  omega

theorem mul_bd1 {n L a b : Nat} (hn : n ≤ a) (hL : L ≤ b) : (0 : Int) ≤ (n : Int) * (1 + (L : Int)) ∧ (n : Int) * (1 + (L : Int)) ≤ ((a * (1 + b) : Nat) : Int) := by
  have h := @mul_bd n (1 + L) a (1 + b) hn (by omega)
  rw [show ((1 + L : Nat) : Int) = 1 + (L : Int) by simp] at h
  exact h

end Go.Proofs.YtomijmikkbhgmaaGreat
