import Derived.Test.YtomijmikkbhgmabT2
import Derived.Test.YtomijmikkbhgmabXd
namespace Go.Proofs.Ytomijmikkbhgmab
open Go.ChangeShapes Go.WideShapes Go.ChangeAt Go.RowKit Go.Deep

theorem i64_rangeS {n : Int} (wn : (Lit.int .i64 n).wf = true) : -9223372036854775808 ≤ n ∧ n < 9223372036854775808 := by
  simp only [Lit.wf, Bool.and_eq_true, decide_eq_true_eq] at wn
  have e1 : IntKind.i64.min = -9223372036854775808 := rfl
  have e2 : IntKind.i64.max = 9223372036854775807 := rfl
  rw [e1, e2] at wn
  omega

theorem Try.bytesIntS : Try.prog.bytesOf 3 = 8 := by kernel_rfl

/-- A number, and it is one of int's. -/
def IntC2 (w : World) (b off : Nat) (x : Int) : Prop := IntC w b off x ∧ (-9223372036854775808 ≤ x ∧ x < 9223372036854775808)

theorem open_intL {H : Type} {enc : TypeId × Value → H} {w : World} {fuel : Nat} {v : Value} {x : DataW H × List MemPlace} (h : DataW.trod enc Try.prog w 0 (fun _ => true) true fuel 39 [v] = some x) (hw : ∀ n ∈ x.1.weights Try.prog 39, n ≤ reachBytes) : ∃ L, IntAt w v L ∧ I64 L ∧ L.length ≤ 4000000000000000000 := by
  obtain ⟨l, ao, b, off, cap, hs, hl⟩ := open_sl (α := Int) 0 (C := IntC2) (s := 1) (by decide) Try.underlying39 Try.cellsInt (fun _ => True)
    (fun fuel cs x hx _ => by
      obtain ⟨a, e, _, wa⟩ := DataW.trod_int Try.underlying3 hx
      subst e
      exact ⟨a, fun b off hc => ⟨hc 0 _ rfl, i64_rangeS wa⟩⟩) h (fun _ _ _ _ _ => trivial)
  refine ⟨l, ⟨ao, b, off, cap, hs.hv, hs.ha, hs.hn, fun k x hx => (hs.hc k x hx).1⟩, fun x hx => ?_, ?_⟩
  · obtain ⟨k, hk⟩ := List.getElem?_of_mem hx
    exact (hs.hc k x hk).2
  · rcases hl with ⟨_, rfl⟩ | ⟨el, sp, e, hel⟩
    · simp
    · rw [e] at hw
      have := (weights_slice Try.underlying39 hw).1
      rw [Try.bytesIntS, hel, reachBytes] at this
      omega

set_option maxRecDepth 100000 in
theorem sections_lifted (os : Os) (started : os.Started) (H : Type) (enc : TypeId × Value → H) :
    ReturnsInHanded {} Try.checked os 7 .any (Rows.sectionsSpec.pre6 enc Try.prog Try.f7 Rows.sectionsRow.domain false) (Rows.sectionsSpec.post enc Try.prog Try.f7 false true false false) := by
  refine returnsInHanded_of_change_sized (C := Try.checked) Try.own started (by kernel_rfl) Try.func7
    (ChangeSpec.witness6 (enc := enc) (C := Try.checked) false ⟨#[], #[.slice none 0 0, .slice none 0 0], []⟩ 8 (by kernel_rfl) (by kernel_rfl) (by kernel_rfl) (by kernel_rfl)) ?_
  intro W base args ds gs before hval0 hW _ hsz0 _
  have hsz : (DataW.weightsEach Try.prog (Try.f7.params.toList ++ Rows.sectionsSpec.plain.varTypes Try.prog) (ds ++ gs)).all (· ≤ reachBytes) = true := hsz0
  clear hsz0
  have hval : ∀ (j : Nat) t v, Try.f7.params[j]? = some t → args[j]? = some v → Value.okWide Try.prog W .any base t v := hval0
  have hW' := hW
  obtain ⟨p, q, hA0, hV, rfl, _, _⟩ := hW
  have hA : DataW.TrodAll enc Try.prog W 0 (fun _ => true) true Try.f7.params.toList args.toList ds p := hA0
  rw [Try.params7] at hA hval hsz
  obtain ⟨v0, v1, d0, d1, p0, p1, rfl, rfl, rfl, h0, h1⟩ := trodAll_two hA
  obtain ⟨rfl, rfl⟩ := trodVars_none hV
  clear hA0 hval0
  simp only [List.append_nil] at hW'
  have hlt0 : ∀ x ∈ p0, x.block < W.heap.size := fun x hx => by simpa using hW'.lt x (by simp [hx])
  have hlt1 : ∀ x ∈ p1, x.block < W.heap.size := fun x hx => by simpa using hW'.lt x (by simp [hx])
  obtain ⟨a0, n0, k0, hs0⟩ := okWide_slice Try.underlying39 (hval 0 39 v0 rfl rfl)
  obtain ⟨a1, n1, k1, hs1⟩ := okWide_slice Try.underlying39 (hval 1 39 v1 rfl rfl)
  subst hs0 hs1
  obtain ⟨f0, hf0⟩ := id h0
  obtain ⟨f1, hf1⟩ := id h1
  obtain ⟨L, hL, hIL, hLl⟩ := open_intL hf0 (fun n hn => by
    have := List.all_eq_true.1 hsz n (DataW.weights_mem_each (j := 0) rfl rfl n hn)
    simpa using this)
  obtain ⟨M, hM, hIM, hMl⟩ := open_intL hf1 (fun n hn => by
    have := List.all_eq_true.1 hsz n (DataW.weights_mem_each (j := 1) rfl rfl n hn)
    simpa using this)
  refine (sections_any L M hLl hMl hIL hIM _ _ W hL hM).mono fun e W' ⟨he, hb⟩ => ?_
  subst he
  refine ⟨_, rfl, _, _, _, [], p0 ++ p1, [], hW', trodAll_mk1 (shut_bool Try.underlying4 _), ?_, rfl, hb.frame _, fun h => by cases h⟩
  exact trodAll_mk2 (Below.trod Try.laidOut (by kernel_rfl) (of_decide_eq_true (by kernel_rfl)) h0 hb hlt0) (Below.trod Try.laidOut (by kernel_rfl) (of_decide_eq_true (by kernel_rfl)) h1 hb hlt1)

theorem sections_holds : Rows.SectionsSaid :=
  OpenClaim.holds_of_wide 7 Try.f7 rfl rfl rfl rfl rfl rfl rfl ⟨rfl, rfl, rfl, rfl, rfl⟩ rfl rfl rfl rfl rfl (by kernel_rfl) Try.func7 (by kernel_rfl)
    (of_decide_eq_true (by kernel_rfl)) (by unfold Func.isWrapper; first | (rw [if_pos (by decide +kernel)]; kernel_rfl) | (rw [if_neg (by decide +kernel)]; exact ⟨rfl, rfl⟩))
    (fun os started H enc _ => sections_lifted os started H enc)

end Go.Proofs.Ytomijmikkbhgmab
