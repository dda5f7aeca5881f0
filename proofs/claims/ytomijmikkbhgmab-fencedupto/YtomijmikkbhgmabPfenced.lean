import Derived.Test.YtomijmikkbhgmabT1
import Derived.Test.YtomijmikkbhgmabT39
import Derived.JoinedCond
import Derived.Deep.CondSized
namespace Go.Proofs.Ytomijmikkbhgmab
open Go.ChangeShapes Go.WideShapes Go.ChangeAt Go.RowKit Go.Deep

/-! what the bound gives -/
theorem bulk_one {H : Type} (d : DataW H) : 1 ≤ Rows.uptoBulk d := by
  cases d with
  | lit l => cases l <;> simp [Rows.uptoBulk]
  | nil => simp [Rows.uptoBulk]
  | ptr d => simp [Rows.uptoBulk]
  | slice elems spare => simp [Rows.uptoBulk]
  | agg parts => simp [Rows.uptoBulk]
  | iface t d => simp [Rows.uptoBulk]
  | map entries => simp [Rows.uptoBulk]
  | held h => simp [Rows.uptoBulk]
theorem bulk_part {H : Type} {d : DataW H} {l : List (DataW H)} (h : d ∈ l) : Rows.uptoBulk d ≤ Rows.uptoBulkAll l := by
  induction l with
  | nil => cases h
  | cons x r ih =>
    simp only [Rows.uptoBulkAll]
    cases List.mem_cons.1 h with
    | inl e => subst e; omega
    | inr e => have := ih e; omega
theorem bulk_len {H : Type} (l : List (DataW H)) : l.length ≤ Rows.uptoBulkAll l := by
  induction l with
  | nil => simp [Rows.uptoBulkAll]
  | cons x r ih => have := bulk_one x; simp only [Rows.uptoBulkAll, List.length_cons]; omega

section
variable {H : Type} {enc : TypeId × Value → H} {w : World}

theorem open_ins3 {fuel : Nat} {v : Value} {x : DataW H × List MemPlace} (h : DataW.trod enc Try.prog w 0 (fun _ => true) true fuel 34 [v] = some x) (hw : ∀ n ∈ x.1.weights Try.prog 34, n ≤ reachBytes) : ∃ l, InsAt w v l ∧ l.length ≤ Rows.uptoBulk x.1 := by
  obtain ⟨l, ao, b, off, cap, hs, hl⟩ := open_sl (α := Ins) ⟨0, 0, 0, 0, 0⟩ (C := InsC) (s := 5) (by decide) Try.underlying34 Try.cellsInstr (fun _ => True)
    (fun fuel cs x hx _ => by
      obtain ⟨i, rfl⟩ := open_instr hx
      exact ⟨i, fun b off hc => ⟨hc 0 _ rfl, hc 1 _ rfl, hc 2 _ rfl, hc 3 _ rfl, hc 4 _ rfl⟩⟩) h (fun _ _ _ _ _ => trivial)
  rcases hl with ⟨_, rfl⟩ | ⟨el, sp, e, hel⟩
  · exact ⟨[], ⟨by simp, ao, b, off, cap, hs⟩, by simp⟩
  · refine ⟨l, ⟨?_, ao, b, off, cap, hs⟩, ?_⟩
    · rw [e] at hw
      have := (weights_slice Try.underlying34 hw).1
      rw [Try.bytesInstr, hel, reachBytes] at this
      omega
    · rw [e]
      simp only [Rows.uptoBulk]
      have := bulk_len el
      omega

structure ThrC3 (w : World) (b off : Nat) (l : List Ins) : Prop where
  ex : ∃ u, w.cell? ⟨b, off, none⟩ = some u ∧ InsAt w u l
  le : l.length ≤ 1048576

theorem open_thr3 {fuel : Nat} {v : Value} {x : DataW H × List MemPlace} (h : DataW.trod enc Try.prog w 0 (fun _ => true) true fuel 22 [v] = some x) (hw : ∀ n ∈ x.1.weights Try.prog 22, n ≤ reachBytes) (hbk : Rows.uptoBulk x.1 ≤ 1048576) : ∃ T, ThrAt w v T ∧ ∀ l ∈ T, l.length ≤ 1048576 := by
  obtain ⟨l, ao, b, off, cap, hs, hl⟩ := open_sl (α := List Ins) [] (C := ThrC3) (s := 1) (by decide) Try.underlying22 Try.cellsInstrs (fun d => (∀ n ∈ d.weights Try.prog 34, n ≤ reachBytes) ∧ Rows.uptoBulk d ≤ 1048576)
    (fun fuel cs x hx hok => by
      have hform : ∃ u, cs = [u] := by
        rcases open_slice Try.underlying34 hx with ⟨hcs, _⟩ | ⟨a, len, cap, m, n, D, Pl, hcs, _⟩
        · exact ⟨_, hcs⟩
        · exact ⟨_, hcs⟩
      obtain ⟨u, rfl⟩ := hform
      obtain ⟨l, hl, hle⟩ := open_ins3 hx hok.1
      exact ⟨l, fun b off hc => ⟨⟨u, hc 0 _ rfl, hl⟩, Nat.le_trans hle hok.2⟩⟩) h (fun el sp e d hd => by
        rw [e] at hw hbk
        refine ⟨(weights_slice Try.underlying22 hw).2 d hd, ?_⟩
        simp only [Rows.uptoBulk] at hbk
        have := bulk_part hd
        omega)
  refine ⟨l, ⟨?_, ao, b, off, cap, hs.hv, hs.ha, hs.hn, fun k x hx => (hs.hc k x hx).ex⟩, fun x hx => by obtain ⟨k, hk⟩ := List.getElem?_of_mem hx; exact (hs.hc k x hk).le⟩
  rcases hl with ⟨_, rfl⟩ | ⟨el, sp, e, hel⟩
  · simp
  · rw [e] at hw
    have := (weights_slice Try.underlying22 hw).1
    rw [Try.bytesInstrs, hel, reachBytes] at this
    omega

set_option maxRecDepth 100000 in
theorem open_test3 {r : Reach} {b0 : Nat} {v : Value} {d : DataW H} {p : List MemPlace} (hv : Value.okWide Try.prog w r b0 25 v) (h : DataW.Trod enc Try.prog w 0 (fun _ => true) true 25 v d p)
    (hw : ∀ n ∈ d.weights Try.prog 25, n ≤ reachBytes) (hbk : Rows.uptoBulk d ≤ 1048576) : ∃ T fa c vt vc, TestAt w v T fa c vt vc ∧ ∀ l ∈ T, l.length ≤ 1048576 := by
  obtain ⟨c0, c1, c2, y0, y1, y2, n, rfl, rfl, rfl, h0, h1, h2⟩ := Joins.open_agg3 Try.underlying25 (by kernel_rfl) Try.cellsTest hv h
  have hwe : ∀ n ∈ DataW.weightsEach Try.prog [22, 4, 23] [y0.1, y1.1, y2.1], n ≤ reachBytes := by
    intro n hn
    refine hw n ?_
    simp only [DataW.weights, Try.underlying25]
    exact hn
  obtain ⟨T, hT, hTl⟩ := open_thr3 h0 (fun n hn => hwe n (DataW.weights_mem_each (j := 0) rfl rfl n hn)) (by simp only [Rows.uptoBulk, Rows.uptoBulkAll] at hbk; omega)
  obtain ⟨fa, e1, _⟩ := DataW.trod_bool Try.underlying4 h1
  simp at e1
  subst e1
  obtain ⟨c, hc⟩ := open_atms h2 (fun n hn => hwe n (DataW.weights_mem_each (j := 2) rfl rfl n hn))
  exact ⟨T, fa, c, c0, c2, ⟨rfl, hT, hc⟩, hTl⟩
end

set_option maxRecDepth 100000 in
theorem fenced_lifted (os : Os) (started : os.Started) (H : Type) (enc : TypeId × Value → H) (F : Stop.Interp) :
    ReturnsInHanded {} Try.checked os 3 .any ((Rows.OpenSpec.upto Rows.fencedSpec).pre6 enc Try.prog Try.f3 Rows.fencedUptoRow.domain false) (((Rows.OpenSpec.upto Rows.fencedSpec).at F).post enc Try.prog Try.f3 false true false false) := by
  refine returnsInHanded_of_cond_sized (C := Try.checked) (s := Rows.OpenSpec.upto Rows.fencedSpec) (k := Rows.uptoSmall) rfl Try.own started (by kernel_rfl) Try.func3
    (OpenSpec.witness (enc := enc) (C := Try.checked) (s := Rows.OpenSpec.upto Rows.fencedSpec) (k := Rows.uptoSmall) rfl false ⟨#[], #[.agg #[.slice none 0 0, .bool false, .slice none 0 0]], []⟩ 8 (by kernel_rfl) (by kernel_rfl) (by kernel_rfl)
      (x := ([.agg [.nil, .lit (.bool false), .nil]], [], [])) (by kernel_rfl) rfl (by kernel_rfl)) ?_
  intro W base args ds gs before hval0 hW _ hk hsz0 _
  have hsz : (DataW.weightsEach Try.prog (Try.f3.params.toList ++ Rows.fencedSpec.plain.varTypes Try.prog) (ds ++ gs)).all (· ≤ reachBytes) = true := hsz0
  clear hsz0
  have hval : ∀ (j : Nat) t v, Try.f3.params[j]? = some t → args[j]? = some v → Value.okWide Try.prog W .any base t v := hval0
  have hW' := hW
  obtain ⟨p, q, hA0, hV, rfl, _, _⟩ := hW
  have hA : DataW.TrodAll enc Try.prog W 0 (fun _ => true) true Try.f3.params.toList args.toList ds p := hA0
  rw [Try.params3] at hA hval hsz
  obtain ⟨v0, d0, rfl, rfl, h0⟩ := trodAll_one hA
  obtain ⟨rfl, rfl⟩ := trodVars_none hV
  clear hA0 hval0
  have hbk : Rows.uptoBulk d0 ≤ 1048576 := by
    have h : Rows.uptoBulkAll ([d0] ++ []) ≤ 1048576 := of_decide_eq_true hk
    simp only [List.append_nil, Rows.uptoBulkAll] at h
    omega
  simp only [List.append_nil] at hW'
  have hlt : ∀ x ∈ p, x.block < W.heap.size := fun x hx => by simpa using hW'.lt x hx
  obtain ⟨T, fa, c, vt, vc, ht, hTl⟩ := open_test3 (hval 0 25 v0 rfl rfl) h0 (fun n hn => by
    have := List.all_eq_true.1 hsz n (DataW.weights_mem_each (j := 0) rfl rfl n hn)
    simpa using this) hbk
  have hv0 := ht.hv
  subst hv0
  refine (fencedL_any T fa c (fun l hl => by have := hTl l hl; omega) vt vc W ht).mono fun e W' ⟨he, hb⟩ => ?_
  subst he
  refine ⟨_, rfl, _, _, _, [], p, [], hW', trodAll_mk1 (shut_bool Try.underlying4 _), ?_, rfl, hb.frame _, fun h => by cases h⟩
  exact trodAll_mk1 (Below.trod Try.laidOut (by kernel_rfl) (of_decide_eq_true (by kernel_rfl)) h0 hb hlt)

theorem fencedUpto_holds : Rows.FencedUptoSaid :=
  OpenClaim.holds_of_cond 3 Try.f3 rfl rfl rfl rfl rfl rfl rfl ⟨rfl, rfl, rfl, rfl, rfl⟩ rfl rfl rfl rfl rfl (by kernel_rfl) Try.func3 (by kernel_rfl)
    (of_decide_eq_true (by kernel_rfl)) (by unfold Func.isWrapper; first | (rw [if_pos (by decide +kernel)]; kernel_rfl) | (rw [if_neg (by decide +kernel)]; exact ⟨rfl, rfl⟩))
    (fun os started H enc _ F => fenced_lifted os started H enc F)

end Go.Proofs.Ytomijmikkbhgmab
