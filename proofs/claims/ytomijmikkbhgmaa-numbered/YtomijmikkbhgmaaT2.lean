import Derived.Test.YtomijmikkbhgmaaT1
import Derived.ProofKit
import Derived.SizedLaws
import Derived.Lib.SmallJoins
import Derived.Deep.Slices
namespace Go.Proofs.Ytomijmikkbhgmaa
open Go.ChangeShapes Go.WideShapes Go.ChangeAt Go.RowKit Go.Deep

theorem Try.cellsTest : Try.prog.cellsOf 25 = 3 := by kernel_rfl
theorem Try.cellsInstrs : Try.prog.cellsOf 63 = 1 := by kernel_rfl
theorem Try.cellsAtom : Try.prog.cellsOf 70 = 3 := by kernel_rfl
theorem Try.cellsInstr : Try.prog.cellsOf 66 = 5 := by kernel_rfl
theorem Try.cellsInt : Try.prog.cellsOf 3 = 1 := by kernel_rfl
theorem Try.bytesInstrs : Try.prog.bytesOf 63 = 24 := by kernel_rfl
theorem Try.bytesAtom : Try.prog.bytesOf 70 = 24 := by kernel_rfl
theorem Try.bytesInstr : Try.prog.bytesOf 66 = 40 := by kernel_rfl

section
variable {H : Type} {enc : TypeId × Value → H} {w : World}

theorem cells_get {base : Nat} {a : Addr} {n : Nat} {cs : List Value} (h : w.cells? base a n = some cs) : cs.length = n ∧ ∀ i v, cs[i]? = some v → w.cell? (a.add i) = some v := by
  unfold World.cells? at h
  split at h
  · have hl := mapM_some_length h
    simp at hl
    refine ⟨hl, fun i v hv => ?_⟩
    have hi : i < n := by have := (List.getElem?_eq_some_iff.1 hv).1; omega
    have := mapM_some_get h i i (by simp [hi])
    rw [this]; exact hv
  · simp at h

set_option maxRecDepth 100000 in
theorem open_instr {fuel : Nat} {cs : List Value} {x : DataW H × List MemPlace} (h : DataW.trod enc Try.prog w 0 (fun _ => true) true fuel 66 cs = some x) :
    ∃ i : Ins, cs = [.int .i64 i.op, .int .i64 i.loc, .int .i64 i.reg, .int .i64 i.val, .int .i64 i.mode] := by
  obtain ⟨xs, n, _, _, hl, hx, hf⟩ := DataW.trod_struct Try.underlying66 h
  rw [Try.cellsInstr] at hl
  match cs, hl with
  | [v0, v1, v2, v3, v4], _ =>
    have hxs : xs.length = 5 := hx
    match xs, hxs with
    | [x0, x1, x2, x3, x4], _ =>
      have h0 : DataW.trod enc Try.prog w 0 (fun _ => true) true n 3 (([v0, v1, v2, v3, v4].drop 0).take (Try.prog.cellsOf 3)) = some x0 := hf 0 _ rfl
      have h1 : DataW.trod enc Try.prog w 0 (fun _ => true) true n 3 (([v0, v1, v2, v3, v4].drop 1).take (Try.prog.cellsOf 3)) = some x1 := hf 1 _ rfl
      have h2 : DataW.trod enc Try.prog w 0 (fun _ => true) true n 3 (([v0, v1, v2, v3, v4].drop 2).take (Try.prog.cellsOf 3)) = some x2 := hf 2 _ rfl
      have h3 : DataW.trod enc Try.prog w 0 (fun _ => true) true n 3 (([v0, v1, v2, v3, v4].drop 3).take (Try.prog.cellsOf 3)) = some x3 := hf 3 _ rfl
      have h4 : DataW.trod enc Try.prog w 0 (fun _ => true) true n 3 (([v0, v1, v2, v3, v4].drop 4).take (Try.prog.cellsOf 3)) = some x4 := hf 4 _ rfl
      rw [Try.cellsInt] at h0 h1 h2 h3 h4
      obtain ⟨a0, e0, _, _⟩ := DataW.trod_int Try.underlying3 h0
      obtain ⟨a1, e1, _, _⟩ := DataW.trod_int Try.underlying3 h1
      obtain ⟨a2, e2, _, _⟩ := DataW.trod_int Try.underlying3 h2
      obtain ⟨a3, e3, _, _⟩ := DataW.trod_int Try.underlying3 h3
      obtain ⟨a4, e4, _, _⟩ := DataW.trod_int Try.underlying3 h4
      simp at e0 e1 e2 e3 e4
      subst e0 e1 e2 e3 e4
      exact ⟨⟨a0, a1, a2, a3, a4⟩, rfl⟩

set_option maxRecDepth 100000 in
theorem open_atm {fuel : Nat} {cs : List Value} {x : DataW H × List MemPlace} (h : DataW.trod enc Try.prog w 0 (fun _ => true) true fuel 70 cs = some x) :
    ∃ i : Atm, cs = [.int .i64 i.thread, .int .i64 i.at', .int .i64 i.val] := by
  obtain ⟨xs, n, _, _, hl, hx, hf⟩ := DataW.trod_struct Try.underlying70 h
  rw [Try.cellsAtom] at hl
  match cs, hl with
  | [v0, v1, v2], _ =>
    have hxs : xs.length = 3 := hx
    match xs, hxs with
    | [x0, x1, x2], _ =>
      have h0 : DataW.trod enc Try.prog w 0 (fun _ => true) true n 3 (([v0, v1, v2].drop 0).take (Try.prog.cellsOf 3)) = some x0 := hf 0 _ rfl
      have h1 : DataW.trod enc Try.prog w 0 (fun _ => true) true n 3 (([v0, v1, v2].drop 1).take (Try.prog.cellsOf 3)) = some x1 := hf 1 _ rfl
      have h2 : DataW.trod enc Try.prog w 0 (fun _ => true) true n 3 (([v0, v1, v2].drop 2).take (Try.prog.cellsOf 3)) = some x2 := hf 2 _ rfl
      rw [Try.cellsInt] at h0 h1 h2
      obtain ⟨a0, e0, _, _⟩ := DataW.trod_int Try.underlying3 h0
      obtain ⟨a1, e1, _, _⟩ := DataW.trod_int Try.underlying3 h1
      obtain ⟨a2, e2, _, _⟩ := DataW.trod_int Try.underlying3 h2
      simp at e0 e1 e2
      subst e0 e1 e2
      exact ⟨⟨a0, a1, a2⟩, rfl⟩

/-- A slice of elements of s cells, each of which can be told by 'C'. -/
theorem open_sl {α : Type} (dflt : α) {C : World → Nat → Nat → α → Prop} {t e : TypeId} {s : Nat} (hs0 : 0 < s) (ht : Try.prog.underlying t = some (.slice e)) (hs : Try.prog.cellsOf e = s)
    (ok : DataW H → Prop)
    (hel : ∀ fuel cs x, DataW.trod enc Try.prog w 0 (fun _ => true) true fuel e cs = some x → ok x.1 → ∃ i : α, ∀ b off, (∀ j u, cs[j]? = some u → w.cell? ⟨b, off + j, none⟩ = some u) → C w b off i)
    {fuel : Nat} {v : Value} {x : DataW H × List MemPlace} (h : DataW.trod enc Try.prog w 0 (fun _ => true) true fuel t [v] = some x)
    (hok : ∀ el sp, x.1 = .slice el sp → ∀ d ∈ el, ok d) :
    ∃ (l : List α) (ao : Option Addr) (b off cap : Nat), SlAt w s C v l ao b off cap ∧ (x.1 = .nil ∧ l = [] ∨ ∃ el sp, x.1 = .slice el sp ∧ el.length = l.length) := by
  rcases open_slice ht h with ⟨hcs, hx⟩ | ⟨a, len, cap, m, n, D, Pl, hcs, _, hlc, _, hm, hx, hD⟩
  · simp at hcs
    subst hcs
    exact ⟨[], none, 0, 0, 0, ⟨rfl, fun h => absurd rfl h, fun _ => ⟨rfl, rfl⟩, fun k x h => by simp at h⟩, .inl ⟨by rw [hx], rfl⟩⟩
  · simp at hcs hm
    subst hcs hm
    rw [hs] at hD
    have hx1 : x.1 = .slice ((List.range len).map D) ((List.range (m - len)).map fun j => D (len + j)) := by rw [hx]
    have hch : ∀ i, i < len → ∃ y : α, ∀ (_ : a.spot = none), C w a.block (a.off + i * s) y := by
      intro i hi
      obtain ⟨cs', h1, h2⟩ := hD i (by omega)
      obtain ⟨y, hy⟩ := hel _ _ _ h2 (hok _ _ hx1 (D i) (List.mem_map.2 ⟨i, by simpa using hi, rfl⟩))
      refine ⟨y, fun hsp => hy _ _ fun j u hj => ?_⟩
      have := (cells_get h1).2 j u hj
      rw [add_add] at this
      obtain ⟨ab, aoff, asp⟩ := a
      simp at hsp
      subst hsp
      rw [Addr.add_lit] at this
      rw [Nat.add_assoc]; exact this
    have hspot : 0 < len → a.spot = none := by
      intro hl
      obtain ⟨cs', h1, _⟩ := hD 0 (by omega)
      obtain ⟨hcl, hcg⟩ := cells_get h1
      have := hcg 0 (cs'[0]'(by omega)) (by simp)
      have hsp := World.cell?_spot this
      obtain ⟨ab, aoff, asp⟩ := a
      simpa [Addr.add] using hsp
    obtain ⟨f, hf⟩ := @choose_lt α ⟨dflt⟩ _ _ hch
    refine ⟨(List.range len).map f, some a, a.block, a.off, m, ⟨by simp, ?_, fun h => by simp at h, ?_⟩, .inr ⟨_, _, hx1, by simp⟩⟩
    · intro hne
      have hl : 0 < len := by
        rcases Nat.eq_zero_or_pos len with h0 | h0
        · subst h0; simp at hne
        · exact h0
      have hsp := hspot hl
      obtain ⟨ab, aoff, asp⟩ := a
      simp at hsp
      simp [hsp]
    · intro k y hk
      have hkl : k < len := by have := (List.getElem?_eq_some_iff.1 hk).1; simpa using this
      have hy : f k = y := by simpa [hkl] using hk
      rw [← hy]
      exact hf k hkl (hspot (by omega))

theorem weights_all {P : Program} {e : TypeId} {l : List (DataW H)} {d : DataW H} (hd : d ∈ l) : ∀ n ∈ d.weights P e, n ∈ DataW.weightsAll P e l := by
  intro n hn
  induction l with
  | nil => simp at hd
  | cons a l ih =>
    simp only [DataW.weightsAll, List.mem_append]
    rcases List.mem_cons.1 hd with rfl | h
    · exact .inl hn
    · exact .inr (ih h)

theorem weights_slice {P : Program} {t e : TypeId} (ht : P.underlying t = some (.slice e)) {el sp : List (DataW H)} (h : ∀ n ∈ (DataW.slice el sp).weights P t, n ≤ reachBytes) :
    el.length * P.bytesOf e ≤ reachBytes ∧ ∀ d ∈ el, ∀ n ∈ d.weights P e, n ≤ reachBytes := by
  simp only [DataW.weights, ht, List.mem_cons, List.mem_append] at h
  refine ⟨?_, fun d hd n hn => h n (.inr (.inl (weights_all hd n hn)))⟩
  have := h _ (.inl rfl)
  exact Nat.le_trans (Nat.mul_le_mul_right _ (by omega)) this

theorem open_ins {fuel : Nat} {v : Value} {x : DataW H × List MemPlace} (h : DataW.trod enc Try.prog w 0 (fun _ => true) true fuel 63 [v] = some x) (hw : ∀ n ∈ x.1.weights Try.prog 63, n ≤ reachBytes) : ∃ l, InsAt w v l := by
  obtain ⟨l, ao, b, off, cap, hs, hl⟩ := open_sl (α := Ins) ⟨0, 0, 0, 0, 0⟩ (C := InsC) (s := 5) (by decide) Try.underlying63 Try.cellsInstr (fun _ => True)
    (fun fuel cs x hx _ => by
      obtain ⟨i, rfl⟩ := open_instr hx
      exact ⟨i, fun b off hc => ⟨hc 0 _ rfl, hc 1 _ rfl, hc 2 _ rfl, hc 3 _ rfl, hc 4 _ rfl⟩⟩) h (fun _ _ _ _ _ => trivial)
  refine ⟨l, ?_, ao, b, off, cap, hs⟩
  rcases hl with ⟨_, rfl⟩ | ⟨el, sp, e, hel⟩
  · simp
  · rw [e] at hw
    have := (weights_slice Try.underlying63 hw).1
    rw [Try.bytesInstr, hel, reachBytes] at this
    omega

theorem open_atms {fuel : Nat} {v : Value} {x : DataW H × List MemPlace} (h : DataW.trod enc Try.prog w 0 (fun _ => true) true fuel 23 [v] = some x) (hw : ∀ n ∈ x.1.weights Try.prog 23, n ≤ reachBytes) : ∃ l, AtmAt w v l := by
  obtain ⟨l, ao, b, off, cap, hs, hl⟩ := open_sl (α := Atm) ⟨0, 0, 0⟩ (C := AtmC) (s := 3) (by decide) Try.underlying23 Try.cellsAtom (fun _ => True)
    (fun fuel cs x hx _ => by
      obtain ⟨i, rfl⟩ := open_atm hx
      exact ⟨i, fun b off hc => ⟨hc 0 _ rfl, hc 1 _ rfl, hc 2 _ rfl⟩⟩) h (fun _ _ _ _ _ => trivial)
  refine ⟨l, ?_, ao, b, off, cap, hs⟩
  rcases hl with ⟨_, rfl⟩ | ⟨el, sp, e, hel⟩
  · simp
  · rw [e] at hw
    have := (weights_slice Try.underlying23 hw).1
    rw [Try.bytesAtom, hel, reachBytes] at this
    omega

theorem open_thr {fuel : Nat} {v : Value} {x : DataW H × List MemPlace} (h : DataW.trod enc Try.prog w 0 (fun _ => true) true fuel 22 [v] = some x) (hw : ∀ n ∈ x.1.weights Try.prog 22, n ≤ reachBytes) : ∃ T, ThrAt w v T := by
  obtain ⟨l, ao, b, off, cap, hs, hl⟩ := open_sl (α := List Ins) [] (C := ThrC) (s := 1) (by decide) Try.underlying22 Try.cellsInstrs (fun d => ∀ n ∈ d.weights Try.prog 63, n ≤ reachBytes)
    (fun fuel cs x hx hok => by
      have hform : ∃ u, cs = [u] := by
        rcases open_slice Try.underlying63 hx with ⟨hcs, _⟩ | ⟨a, len, cap, m, n, D, Pl, hcs, _⟩
        · exact ⟨_, hcs⟩
        · exact ⟨_, hcs⟩
      obtain ⟨u, rfl⟩ := hform
      obtain ⟨l, hl⟩ := open_ins hx hok
      exact ⟨l, fun b off hc => ⟨u, hc 0 _ rfl, hl⟩⟩) h (fun el sp e d hd => by rw [e] at hw; exact (weights_slice Try.underlying22 hw).2 d hd)
  refine ⟨l, ?_, ao, b, off, cap, hs⟩
  rcases hl with ⟨_, rfl⟩ | ⟨el, sp, e, hel⟩
  · simp
  · rw [e] at hw
    have := (weights_slice Try.underlying22 hw).1
    rw [Try.bytesInstrs, hel, reachBytes] at this
    omega

set_option maxRecDepth 100000 in
/-- An argument of type api.Test. -/
theorem open_test {r : Reach} {b0 : Nat} {v : Value} {d : DataW H} {p : List MemPlace} (hv : Value.okWide Try.prog w r b0 25 v) (h : DataW.Trod enc Try.prog w 0 (fun _ => true) true 25 v d p)
    (hw : ∀ n ∈ d.weights Try.prog 25, n ≤ reachBytes) : ∃ T fa c vt vc, TestAt w v T fa c vt vc := by
  obtain ⟨c0, c1, c2, y0, y1, y2, n, rfl, rfl, rfl, h0, h1, h2⟩ := Joins.open_agg3 Try.underlying25 (by kernel_rfl) Try.cellsTest hv h
  have hwe : ∀ n ∈ DataW.weightsEach Try.prog [22, 4, 23] [y0.1, y1.1, y2.1], n ≤ reachBytes := by
    intro n hn
    refine hw n ?_
    simp only [DataW.weights, Try.underlying25]
    exact hn
  obtain ⟨T, hT⟩ := open_thr h0 (fun n hn => hwe n (DataW.weights_mem_each (j := 0) rfl rfl n hn))
  obtain ⟨fa, e1, _⟩ := DataW.trod_bool Try.underlying4 h1
  simp at e1
  subst e1
  obtain ⟨c, hc⟩ := open_atms h2 (fun n hn => hwe n (DataW.weights_mem_each (j := 2) rfl rfl n hn))
  exact ⟨T, fa, c, c0, c2, rfl, hT, hc⟩
end

end Go.Proofs.Ytomijmikkbhgmaa

namespace Go.Proofs.Ytomijmikkbhgmaa

theorem Try.own : ownKnob Try.prog.godebug = none := by kernel_rfl
theorem Try.laidOut : laidOutB Try.prog = true := by kernel_rfl

end Go.Proofs.Ytomijmikkbhgmaa
