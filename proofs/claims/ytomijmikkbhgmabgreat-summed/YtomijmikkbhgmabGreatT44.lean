import Derived.Test.YtomijmikkbhgmabGreatT43
import Derived.Deep.CutRange
import Derived.Test.YtomijmikkbhgmabGreatT42
import Derived.Test.YtomijmikkbhgmabGreatT39
import Derived.Test.YtomijmikkbhgmabGreatT36
import Derived.Test.YtomijmikkbhgmabGreatOe
namespace Go.Proofs.YtomijmikkbhgmabGreat
open Go.RowKit

/-- The number of the first that decides. -/
def fstN (mt fa : Bool) (f : Int) (i : Nat) : Int := if (mt != fa) && f == -1 then (i : Int) else f

def upN (mt : Bool) (g : Nat) : Nat := if mt then g + 1 else g
def dnN (mt : Bool) (b : Nat) : Nat := if mt then b else b + 1

/-- What comes of add. -/
def AddOut (base : Nat) (w : World) (R g b : Nat) (f : Int) (K : List (List Int × Nat)) (e : Ending) (w' : World) : Prop :=
  ∃ r V O vs, e = .returned r ∧ SumAt base w' R g b f V O (K.map (·.1)) (K.map (·.2)) vs ∧ Below base w w'

set_option maxRecDepth 20000 in
set_option maxHeartbeats 4000000 in
theorem addS_any (T : List (List Ins)) (hT : T.length ≤ 4) (fa : Bool) (c : List Atm) (hAt : AtmsOk T.length c) (vt vc : Value) (K : List (List Int × Nat)) (hK : K.length ≤ 2000) (hKc : ∀ p ∈ K, p.2 ≤ 2000) (hKl : ∀ p ∈ K, p.1.length ≤ 100) (s : List Int) (hs : s.length = 3 * T.length + 3) (i : Nat) (_hi : i ≤ 2000) (g b : Nat) (hg : g ≤ 2000) (hb : b ≤ 2000) (f : Int) (R : Nat) (V O : Value) (vs : List Value) (u : Value) (base : Nat) (w : World) (h : TestAt w (.agg #[vt, .bool fa, vc]) T fa c vt vc)
    (hS : SumAt base w R g b f V O (K.map (·.1)) (K.map (·.2)) vs) (hu : IntAt w u s) (hub : ∀ k, u.ownBlock = some k → k < w.heap.size ∧ k ≠ R ∧ V.ownBlock ≠ some k ∧ O.ownBlock ≠ some k) :
    Calls Tryz.prog 23 #[.pointer (some ⟨R, 0, none⟩), .agg #[vt, .bool fa, vc], .int .i64 i, u] w (AddOut base w R (upN (metB T.length c s) g) (dnN (metB T.length c s) b) (fstN (metB T.length c s) fa f i) (addK K s)) := by
  obtain ⟨au, cu, hu1⟩ := hu.form
  subst hu1
  have HM : Hid (∀ w', Below w.heap.size w w' → Calls Tryz.prog 42 #[.agg #[vt, .bool fa, vc], .slice au s.length cu] w' fun e w'' => e = .returned (.bool (metB T.length c s)) ∧ Below w'.heap.size w' w'') := fun w' hb' => metK_any T hT fa c hAt vt vc s hs _ w' (h.keep hb') (hu.keep hb')
  generalize metB T.length c s = mt at HM ⊢
  generalize HG : upN mt g = g1
  generalize HB : dnN mt b = b1
  generalize HF : fstN mt fa f i = f3
  have HGBF : Hid (upN mt g = g1 ∧ dnN mt b = b1 ∧ fstN mt fa f i = f3) := ⟨HG, HB, HF⟩
  clear HG HB HF
  have HOUT : Hid (∀ e w', (∃ r V O vs, e = .returned r ∧ SumAt base w' R g1 b1 f3 V O ((addK K s).map (·.1)) ((addK K s).map (·.2)) vs ∧ Below base w w') → AddOut base w R g1 b1 f3 (addK K s) e w') := fun _ _ h => h
  generalize AddOut base w R g1 b1 f3 (addK K s) = AO at HOUT ⊢
  have HS0 : Hid (SumAt base w R g b f V O (K.map (·.1)) (K.map (·.2)) vs) := hS
  have HU0 : Hid (IntAt w (.slice au s.length cu) s ∧ ∀ k, (Value.slice au s.length cu).ownBlock = some k → k < w.heap.size ∧ k ≠ R ∧ V.ownBlock ≠ some k ∧ O.ownBlock ≠ some k) := ⟨hu, hub⟩
  have HKK : Hid ((∀ p ∈ K, p.2 ≤ 2000) ∧ (∀ p ∈ K, p.1.length ≤ 100) ∧ s.length ≤ 100) := ⟨hKc, hKl, by omega⟩
  have hsl : s.length ≤ 100 := by omega
  obtain ⟨ht0, aot, bt, offt, capt, htv, _⟩ := h.ht.opened
  obtain ⟨hc0, aoc, bc, offc, capc, hsc⟩ := h.hc
  have hcv := hsc.hv
  subst htv hcv
  clear hS hu hub hKc hKl h hAt hs hsc
  go_enter Tryz.func23, Tryz.ntmps23
  go_wp2_with fail
  have hba := below_alloc w (.cells #[.slice aot T.length capt, .bool fa, .slice aoc c.length capc] 25)
  refine (HM.out _ hba).mono ?_
  rintro e w3 ⟨rfl, hb3⟩
  have t1 := keep_cell hb3 (b := w.heap.size) (off := 1) (u := .bool fa) (by simp)
  have hbw3 := below_more hba hb3
  have HS3 : Hid (SumAt base w3 R g b f V O (K.map (·.1)) (K.map (·.2)) vs) := HS0.out.keep hbw3
  have hsz3 : w.heap.size < w3.heap.size := World.block_lt_of_cell? _ _ t1
  have hRw : R < w.heap.size := lt_of_block HS0.out.rb
  have hRne : w.heap.size ≠ R := by omega
  have r0 : w3.cell? ⟨R, 0, none⟩ = some (.int .i64 g) := by simp [World.cell?, HS3.out.rb]
  have r1 : w3.cell? ⟨R, 1, none⟩ = some (.int .i64 b) := by simp [World.cell?, HS3.out.rb]
  have f0 : w3.frozen? ⟨R, 0, none⟩ = false := by simp [World.frozen?, HS3.out.rb]
  have f1 : w3.frozen? ⟨R, 1, none⟩ = false := by simp [World.frozen?, HS3.out.rb]
  go_upto_if 14 with fail
  go_cut [8] from 14 (fun m wc => m = .bool mt ∧ Hid (SumAt base wc R g1 b1 f V O (K.map (·.1)) (K.map (·.2)) vs) ∧ Hid (Chg base R V O w3 wc))
  case first =>
    cases mt
    · obtain ⟨q1, q2⟩ := HS3.out.put 1 (.int .i64 ((b : Int) + 1)) (g' := g) (b' := b + 1) (f' := f) (by simp)
      have HQ : Hid (SumAt base (w3.setCell ⟨R, 1, none⟩ (.int .i64 ((b : Int) + 1))) R g (b + 1) f V O (K.map (·.1)) (K.map (·.2)) vs ∧ Chg base R V O w3 (w3.setCell ⟨R, 1, none⟩ (.int .i64 ((b : Int) + 1)))) := ⟨q1, q2⟩
      clear q1 q2
      go_wp2_with fail
      go_meet
      case rel => exact ⟨rfl, by rw [← HGBF.out.1, ← HGBF.out.2.1]; exact HQ.out.1, HQ.out.2⟩
    · obtain ⟨q1, q2⟩ := HS3.out.put 0 (.int .i64 ((g : Int) + 1)) (g' := g + 1) (b' := b) (f' := f) (by simp)
      have HQ : Hid (SumAt base (w3.setCell ⟨R, 0, none⟩ (.int .i64 ((g : Int) + 1))) R (g + 1) b f V O (K.map (·.1)) (K.map (·.2)) vs ∧ Chg base R V O w3 (w3.setCell ⟨R, 0, none⟩ (.int .i64 ((g : Int) + 1)))) := ⟨q1, q2⟩
      clear q1 q2
      go_wp2_with fail
      go_meet
      case rel => exact ⟨rfl, by rw [← HGBF.out.1, ← HGBF.out.2.1]; exact HQ.out.1, HQ.out.2⟩
  case rest =>
    obtain ⟨rfl, HS4, HC4⟩ := hcut
    obtain ⟨w4, hw4⟩ : ∃ x, x = wc := ⟨_, rfl⟩
    subst hw4
    replace t1 : w4.cell? ⟨w.heap.size, 1, none⟩ = some (.bool fa) := by
      have hV : V.ownBlock ≠ some w.heap.size := fun e => by have := (HS0.out.sv.lt _ e).2; omega
      have hO : O.ownBlock ≠ some w.heap.size := fun e => by have := (HS0.out.so.lt _ e).2; omega
      have := HC4.out.block w.heap.size hsz3 hRne hV hO
      rw [← t1]
      simp [World.cell?, this]
    have r2 : w4.cell? ⟨R, 2, none⟩ = some (.int .i64 f) := by simp [World.cell?, HS4.out.rb]
    have f2 : w4.frozen? ⟨R, 2, none⟩ = false := by simp [World.frozen?, HS4.out.rb]
    clear r0 r1 f0 f1 HM hba hb3
    go_upto_region 5 with fail
    go_cut [39] from 14 (fun d wd => d = .bool ((mt != fa) && f == -1) ∧ w4 = wd)
    case first =>
      cases mt <;> cases fa <;> cases hf : f == -1 <;> (go_wp2_with fail; go_meet; case rel => exact ⟨by simp [hf], rfl⟩)
    case rest =>
      obtain ⟨rfl, hwd⟩ := hcut
      subst hwd
      go_upto_if 39 with fail
      go_cut [8] from 14 (fun m we => m = .bool mt ∧ Hid (SumAt base we R g1 b1 f3 V O (K.map (·.1)) (K.map (·.2)) vs) ∧ Hid (Chg base R V O w4 we))
      case first =>
        obtain ⟨q1, q2⟩ := HS4.out.put 2 (.int .i64 (i : Int)) (g' := g1) (b' := b1) (f' := (i : Int)) (by simp)
        have HQ : Hid (SumAt base (w4.setCell ⟨R, 2, none⟩ (.int .i64 (i : Int))) R g1 b1 i V O (K.map (·.1)) (K.map (·.2)) vs ∧ Chg base R V O w4 (w4.setCell ⟨R, 2, none⟩ (.int .i64 (i : Int)))) := ⟨q1, q2⟩
        have HF1 : Hid (((mt != fa) && f == -1) = true → f3 = i) := fun e => by rw [← HGBF.out.2.2]; unfold fstN; rw [if_pos e]
        have HF0 : Hid (((mt != fa) && f == -1) = false → f3 = f) := fun e => by rw [← HGBF.out.2.2]; unfold fstN; rw [if_neg (by rw [e]; simp)]
        have HCR : Hid (Chg base R V O w4 w4) := Chg.of_below HS4.out.hB (Below.refl _ _)
        clear q1 q2
        generalize ((mt != fa) && f == -1) = D at *
        cases D
        · have HF : Hid (f3 = f) := HF0.out rfl
          clear HF0 HF1
          go_wp2_with fail
          go_meet
          case rel => exact ⟨rfl, by rw [HF.out]; exact HS4.out, HCR.out⟩
        · have HF : Hid (f3 = i) := HF1.out rfl
          clear HF0 HF1
          go_wp2_with fail
          go_meet
          case rel => exact ⟨rfl, by rw [HF.out]; exact HQ.out.1, HQ.out.2⟩
      case rest =>
        obtain ⟨rfl, HS5, HC5⟩ := hcut
        obtain ⟨we, hwe⟩ : ∃ x, x = wc := ⟨_, rfl⟩
        subst hwe
        have HC3 : Hid (Chg base R V O w3 we) := HC4.out.trans HC5.out (fun g h => .inl h) (fun g h => .inl h)
        have HU5 : Hid (IntAt we (.slice au s.length cu) s ∧ ∀ k, (Value.slice au s.length cu).ownBlock = some k → k < we.heap.size ∧ k ≠ R ∧ V.ownBlock ≠ some k ∧ O.ownBlock ≠ some k) := by
          have h1 := hbw3.size
          have h2 := HC3.out.low.size
          refine ⟨(HU0.out.1.keep hbw3).other fun k e => ?_, fun k e => ⟨by have := (HU0.out.2 k e).1; omega, (HU0.out.2 k e).2⟩⟩
          obtain ⟨q1, q2, q3, q4⟩ := HU0.out.2 k e
          exact HC3.out.block k (by omega) q2 q3 q4
        have HLW : Hid (Below base w we) := (hbw3.mono HS0.out.hB).trans HC3.out.low
        obtain ⟨aV, capV, hV⟩ : ∃ a c, V = .slice a K.length c := by have := own_form1 HS5.out.sv; rwa [List.length_map] at this
        obtain ⟨aO, capO, hO⟩ : ∃ a c, O = .slice a K.length c := by have := own_form1 HS5.out.so; rwa [List.length_map] at this
        subst hV hO
        clear t1 r2 f2 HC3 HC4 HC5 HS3 HS4 HS0 HU0 hsz3 hRne hRw
        go_wp2_with fail
        go_loopw [9] (fun n wr => ∃ k : Nat, k ≤ K.length ∧ n = .int .i64 k ∧ Hid (addK K s = K.take k ++ addK (K.drop k) s) ∧ Below we.heap.size we wr) (fun n _ => K.length - (intOf n).toNat)
        case atStart => exact ⟨0, Nat.zero_le _, rfl, by show _ = _; simp, Below.refl _ _⟩
        case round =>
          obtain ⟨k, hk, rfl, HAK, hbr⟩ := hrel
          have HS6 : Hid (SumAt base wr R g1 b1 f3 (.slice aV K.length capV) (.slice aO K.length capO) (K.map (·.1)) (K.map (·.2)) vs) := HS5.out.keep hbr
          have r3 : wr.cell? ⟨R, 3, none⟩ = some (.slice aV K.length capV) := by simp [World.cell?, HS6.out.rb]
          have r4 : wr.cell? ⟨R, 4, none⟩ = some (.slice aO K.length capO) := by simp [World.cell?, HS6.out.rb]
          by_cases hlt : k < K.length
          · obtain ⟨p, hp⟩ := get_of_lt hlt
            have hkI : (k : Int) < (K.length : Int) := by omega
            obtain ⟨gV, cV, eV⟩ := own_some1 HS6.out.sv (by simp; omega)
            obtain ⟨gO, cO, eO⟩ := own_some1 HS6.out.so (by simp; omega)
            rw [Value.slice.injEq] at eV eO
            obtain ⟨rfl, -, rfl⟩ := eV
            obtain ⟨rfl, -, rfl⟩ := eO
            obtain ⟨uk, hvk, hik, _⟩ := HS6.out.rows k p.1 (by simp [hp])
            obtain ⟨a1, c1, e1⟩ := hik.form
            subst e1
            have k0 := HS6.out.sv.cells (g := gV) rfl k _ hvk
            rw [Addr.add_lit, Nat.zero_add] at k0
            have k1 := HS6.out.so.cells (g := gO) rfl k (.int .i64 (p.2 : Int)) (by simp [hp])
            rw [Addr.add_lit, Nat.zero_add] at k1
            have f1 : wr.frozen? ⟨gO, k, none⟩ = false := by
              have := HS6.out.so
              rw [List.length_map] at this
              exact this.frozenAt k
            have hmem := List.mem_of_getElem? hp
            have hp2 := HKK.out.1 p hmem
            have hp1 := HKK.out.2.1 p hmem
            have HSM : Hid (Calls Tryz.prog 13 #[.slice a1 p.1.length c1, .slice au s.length cu] wr fun e w'' => e = .returned (.bool (p.1 == s)) ∧ Below wr.heap.size wr w'') := sameK_any p.1 s (by omega) (by omega) _ _ wr hik (HU5.out.1.keep hbr)
            cases hps : p.1 == s
            · have HAN : Hid (addK K s = K.take (k + 1) ++ addK (K.drop (k + 1)) s) := addK_no hp hps HAK.out
              rw [hps] at HSM
              generalize p.1.length = lp at *
              generalize p.2 = pc at *
              clear hp hik hmem hvk hps HAK
              go_wp2_with fail
              refine HSM.out.mono ?_
              rintro e w7 ⟨rfl, hb7⟩
              have hb8 := below_more hbr hb7
              clear HSM k0 k1 f1 r3 r4 hb7
              go_wp2_with fail
              go_roundw
              case measure => simp [intOf]; omega
              case rel => exact ⟨k + 1, by omega, by go_num, HAN.out, hb8⟩
            · have HAY : Hid (addK K s = K.set k (p.1, p.2 + 1)) := addK_yes hp hps HAK.out
              rw [hps] at HSM
              have HAF : Hid ((addK K s).map (·.1) = K.map (·.1) ∧ (addK K s).map (·.2) = (K.map (·.2)).set k (p.2 + 1)) := by
                rw [HAY.out]
                exact ⟨set_fst hp _, by rw [List.map_set]⟩
              generalize p.1.length = lp at *
              generalize p.2 = pc at *
              clear hp hik hmem hvk hps HAK HAY
              go_wp2_with fail
              refine HSM.out.mono ?_
              rintro e w7 ⟨rfl, hb7⟩
              replace k1 := keep_cell hb7 k1
              replace r4 := keep_cell hb7 r4
              have m7 := World.block_lt_of_cell? _ _ k1
              replace f1 : w7.frozen? ⟨gO, k, none⟩ = false := by
                have := (HS6.out.keep hb7).so
                rw [List.length_map] at this
                exact this.frozenAt k
              have HQ : Hid (SumAt base (w7.setCell ⟨gO, k, none⟩ (.int .i64 ((pc : Int) + 1))) R g1 b1 f3 (.slice (some ⟨gV, 0, none⟩) K.length capV) (.slice (some ⟨gO, 0, none⟩) K.length capO) ((addK K s).map (·.1)) ((addK K s).map (·.2)) vs ∧ Below base w (w7.setCell ⟨gO, k, none⟩ (.int .i64 ((pc : Int) + 1)))) := by
                obtain ⟨q1, q2⟩ := (HS6.out.keep hb7).bump (by simp) k (pc + 1)
                rw [HAF.out.1, HAF.out.2]
                exact ⟨q1, ((HLW.out.trans (hbr.mono HS5.out.hB)).trans (hb7.mono HS6.out.hB)).trans q2.low⟩
              clear HSM k0 r3 hb7 HS6 HAF
              go_wp2_with fail
              exact bodyPost_ret (v := .tuple #[]) (results_none rfl _ _ _) rfl (HOUT.out _ _ ⟨_, _, _, _, rfl, HQ.out.1, HQ.out.2⟩)
          · have hkI : (K.length : Int) ≤ (k : Int) := by omega
            have HAE : Hid ((addK K s).map (·.1) = K.map (·.1) ++ [s] ∧ (addK K s).map (·.2) = K.map (·.2) ++ [1]) := by
              show _ ∧ _
              rw [HAK.out, drop_nil (by omega), List.take_of_length_le (by omega)]
              simp [addK]
            obtain ⟨i1, hi1, hx0, hx1, hx2⟩ := info_parts Tryz.infoInts
            have HI : Hid (Tryz.prog.info? 37 = some i1 ∧ i1.zero = some (.slice none 0 0) ∧ i1.size = 1 ∧ i1.bytes = 24) := ⟨hi1, hx0, hx1, hx2⟩
            obtain ⟨i2, hj1, hy0, hy1, hy2⟩ := info_parts Tryz.info3
            have HJ : Hid (Tryz.prog.info? 3 = some i2 ∧ i2.zero = some (.int .i64 0) ∧ i2.size = 1 ∧ i2.bytes = 8) := ⟨hj1, hy0, hy1, hy2⟩
            have HO6 : Hid (wr.ownsRow base 37 1 (.slice aV K.length capV) K.length vs) := by have := HS6.out.sv; rwa [List.length_map] at this
            have hB6 := HS6.out.hB
            have f3' : wr.frozen? ⟨R, 3, none⟩ = false := by simp [World.frozen?, HS6.out.rb]
            clear HAK hi1 hx0 hx1 hx2 hj1 hy0 hy1 hy2 r4
            go_wp2_with (at_builtin; refine append_new _ rfl _ _ 36 rfl base 37 i1 (.slice none 0 0) 1 24 Tryz.underlying36 HI.out.1 HI.out.2.1 HI.out.2.2.1 HI.out.2.2.2 rfl (by decide) (.slice aV K.length capV) K.length vs rfl (HO6.out.alloc _) (some ⟨wr.heap.size, 0, none⟩) 1 1 [.slice au s.length cu] rfl (fun h => by cases h) rfl (fun ad had => by cases had; exact new_one rfl) (by simp [Value.oneCell']) (by unfold maxLen; omega) (by omega) (by simp; omega) ?_)
            intro V8 w8 hown8 hgrow8 hap8
            obtain ⟨aV8, cV8, hV8⟩ := own_form1 hown8
            subst hV8
            have HQ8 : Hid (SumAt base (w8.setCell ⟨R, 3, none⟩ (.slice aV8 (K.length + 1) cV8)) R g1 b1 f3 (.slice aV8 (K.length + 1) cV8) (.slice aO K.length capO) (K.map (·.1) ++ [s]) (K.map (·.2)) (vs ++ [.slice au s.length cu]) ∧ Below base wr (w8.setCell ⟨R, 3, none⟩ (.slice aV8 (K.length + 1) cV8)) ∧ w8.heap[R]? = some (.cells #[.int .i64 g1, .int .i64 b1, .int .i64 f3, .slice aV K.length capV, .slice aO K.length capO] 39 (0, 0))) := by
              obtain ⟨q1, q2, q3⟩ := HS6.out.appV (HU5.out.1.keep hbr) (fun k e => ⟨Nat.lt_of_lt_of_le (HU5.out.2 k e).1 hbr.size, (HU5.out.2 k e).2⟩) (by rw [List.length_map]; exact hown8) hgrow8 (by simpa using hap8)
              exact ⟨q1, q2.low, q3⟩
            have r8 : w8.cell? ⟨R, 3, none⟩ = some (.slice aV K.length capV) := by simp [World.cell?, HQ8.out.2.2]
            have f8 : w8.frozen? ⟨R, 3, none⟩ = false := by simp [World.frozen?, HQ8.out.2.2]
            clear hown8 hgrow8 hap8 r3 f3' HO6
            go_upto_region 14 with fail
            obtain ⟨w9, hw9⟩ : ∃ x, x = w8.setCell ⟨R, 3, none⟩ (.slice aV8 (K.length + 1) cV8) := ⟨_, rfl⟩
            rw [← hw9] at HQ8 ⊢
            have HS9 : Hid (SumAt base w9 R g1 b1 f3 (.slice aV8 (K.length + 1) cV8) (.slice aO K.length capO) (K.map (·.1) ++ [s]) (K.map (·.2)) (vs ++ [.slice au s.length cu])) := HQ8.out.1
            have HB9 : Hid (Below base wr w9) := HQ8.out.2.1
            clear hw9 r8 f8 HQ8
            have r4 : w9.cell? ⟨R, 4, none⟩ = some (.slice aO K.length capO) := by simp [World.cell?, HS9.out.rb]
            have HO9 : Hid (w9.ownsRow base 3 1 (.slice aO K.length capO) K.length ((K.map (·.2)).map fun n : Nat => Value.int .i64 (n : Int))) := by have := HS9.out.so; rwa [List.length_map] at this
            have hB9 := HS9.out.hB
            go_wp2_with (at_builtin; refine append_new _ rfl _ _ 37 rfl base 3 i2 (.int .i64 0) 1 8 Tryz.underlying37 HJ.out.1 HJ.out.2.1 HJ.out.2.2.1 HJ.out.2.2.2 rfl (by decide) (.slice aO K.length capO) K.length ((K.map (·.2)).map fun n : Nat => Value.int .i64 (n : Int)) rfl (HO9.out.alloc _) (some ⟨w9.heap.size, 0, none⟩) 1 1 [.int .i64 1] rfl (fun h => by cases h) rfl (fun ad had => by cases had; exact new_one rfl) (by simp [Value.oneCell']) (by unfold maxLen; omega) (by omega) (by simp; omega) ?_)
            intro O10 w10 hown10 hgrow10 hap10
            obtain ⟨aO2, cO2, hO2⟩ := own_form1 hown10
            subst hO2
            have HQ10 : Hid (SumAt base (w10.setCell ⟨R, 4, none⟩ (.slice aO2 (K.length + 1) cO2)) R g1 b1 f3 (.slice aV8 (K.length + 1) cV8) (.slice aO2 (K.length + 1) cO2) ((addK K s).map (·.1)) ((addK K s).map (·.2)) (vs ++ [.slice au s.length cu]) ∧ Below base w (w10.setCell ⟨R, 4, none⟩ (.slice aO2 (K.length + 1) cO2)) ∧ w10.heap[R]? = some (.cells #[.int .i64 g1, .int .i64 b1, .int .i64 f3, .slice aV8 (K.length + 1) cV8, .slice aO K.length capO] 39 (0, 0))) := by
              obtain ⟨q1, q2, q3⟩ := HS9.out.appO (n := 1) (by rw [List.length_map]; simpa using hown10) hgrow10 (by simpa using hap10)
              rw [HAE.out.1, HAE.out.2]
              exact ⟨q1, ((HLW.out.trans (hbr.mono HS5.out.hB)).trans HB9.out).trans q2.low, q3⟩
            have r10 : w10.cell? ⟨R, 4, none⟩ = some (.slice aO K.length capO) := by simp [World.cell?, HQ10.out.2.2]
            have f10 : w10.frozen? ⟨R, 4, none⟩ = false := by simp [World.frozen?, HQ10.out.2.2]
            clear hown10 hgrow10 hap10 r4 HO9 HB9 HS9
            go_wp2_with fail
            exact bodyPost_end (v := .tuple #[]) (results_none rfl _ _ _) rfl (HOUT.out _ _ ⟨_, _, _, _, rfl, HQ10.out.1, HQ10.out.2.1⟩)

end Go.Proofs.YtomijmikkbhgmabGreat

namespace Go.Proofs.YtomijmikkbhgmabGreat
open Go.RowKit

theorem idxA_at {n : Nat} {x : Atm} (h : atmB x n = true) : ((idxA n x : Nat) : Int) = if x.thread == -1 then 3 * (n : Int) + x.at' else 3 * x.thread + x.at' := by
  unfold idxA
  rcases atm_range h with ⟨h1, h2, h3⟩ | ⟨h1, h2, h3, h4⟩
  · rw [h1]; simp; omega
  · have : (x.thread == -1) = false := by simp; omega
    rw [this]; simp; omega
theorem idxA_lt {n : Nat} {x : Atm} (h : atmB x n = true) : idxA n x < 3 * n + 3 := by
  have := idxA_at h
  rcases atm_range h with ⟨h1, h2, h3⟩ | ⟨h1, h2, h3, h4⟩
  · rw [h1] at this; simp at this; omega
  · have h5 : (x.thread == -1) = false := by simp; omega
    rw [h5] at this; simp at this; omega

set_option maxRecDepth 20000 in
theorem placeOfS_any (n : Nat) (hn : n ≤ 4) (x : Atm) (h : atmB x n = true) (w : World) :
    Calls Tryz.prog 75 #[.int .i64 n, .int .i64 x.thread, .int .i64 x.at'] w fun e w' => e = .returned (.int .i64 (idxA n x : Nat)) ∧ Below w.heap.size w w' := by
  have hix := idxA_at h
  have hlt := idxA_lt h
  rcases atm_range h with ⟨h1, h2, h3⟩ | ⟨h1, h2, h3, h4⟩
  · have e0 : decide (x.thread < 0) = true := by simp; omega
    have e1 : (n : Int) * 3 + x.at' = ((idxA n x : Nat) : Int) := by rw [hix, h1]; simp; omega
    have e2 : IntKind.i64.wrap ((n : Int) * 3) = (n : Int) * 3 := by rw [IntKind.wrap_i64]; omega
    have e3 : IntKind.i64.wrap ((idxA n x : Nat) : Int) = ((idxA n x : Nat) : Int) := by rw [IntKind.wrap_i64]; omega
    have h10 : x.thread < 0 := by omega
    generalize idxA n x = ix at *
    clear hix h
    go_enter Tryz.func75, Tryz.ntmps75
    go_wp2_with fail
    go_ret
    exact ⟨rfl, Below.refl _ _⟩
  · have e1 : x.thread * 3 + x.at' = ((idxA n x : Nat) : Int) := by
      rw [hix]
      have h5 : (x.thread == -1) = false := by simp; omega
      rw [h5]; simp; omega
    have e2 : IntKind.i64.wrap (x.thread * 3) = x.thread * 3 := by rw [IntKind.wrap_i64]; omega
    have e3 : IntKind.i64.wrap ((idxA n x : Nat) : Int) = ((idxA n x : Nat) : Int) := by rw [IntKind.wrap_i64]; omega
    generalize idxA n x = ix at *
    clear hix h
    go_enter Tryz.func75, Tryz.ntmps75
    go_wp2_with fail
    go_ret
    exact ⟨rfl, Below.refl _ _⟩

set_option maxRecDepth 20000 in
set_option maxHeartbeats 2000000 in
theorem holdsP_any (T : List (List Ins)) (hT : T.length ≤ 4) (fa : Bool) (c : List Atm) (hc : AtmsOk T.length c) (vt vc : Value) (s : List Int) (hs : s.length = 3 * T.length + 3) (v : Value) (w : World) (h : TestAt w (.agg #[vt, .bool fa, vc]) T fa c vt vc) (hv : IntAt w v s) :
    Calls Tryz.prog 44 #[.agg #[vt, .bool fa, vc], v] w fun e w' => e = .returned (.bool (metB T.length c s)) ∧ Below w.heap.size w w' := by
  obtain ⟨ht0, aot, bt, offt, capt, htv, _⟩ := h.ht.opened
  obtain ⟨hc0, aoc, bc, offc, capc, hvc, hac, _, hcc⟩ := h.hc
  obtain ⟨ao, b, off, cap, hv1, ha, _, hcs⟩ := hv
  subst htv hvc hv1
  have HC : Hid (∀ k x, c[k]? = some x → AtmC w bc (offc + k * 3) x) := hcc
  have HS : Hid (∀ k x, s[k]? = some x → w.cell? ⟨b, off + k, none⟩ = some (.int .i64 x)) := fun k x hx => by
    have := hcs k x hx
    unfold IntC at this
    rw [Nat.mul_one] at this; exact this
  have HOK : Hid (AtmsOk T.length c ∧ s.length = 3 * T.length + 3) := ⟨hc, hs⟩
  have HPO : Hid (∀ (x : Atm) (w' : World), x ∈ c → Calls Tryz.prog 75 #[.int .i64 T.length, .int .i64 x.thread, .int .i64 x.at'] w' fun e w'' => e = .returned (.int .i64 (idxA T.length x : Nat)) ∧ Below w'.heap.size w' w'') := fun x w' hx => placeOfS_any T.length hT x (hc x hx) w'
  obtain rfl := ha (by intro h; rw [h] at hs; simp at hs)
  have HB : Hid (metB T.length c s = (c.drop 0).all fun a => s.getD (idxA T.length a) 0 == a.val) := rfl
  generalize metB T.length c s = B at HB ⊢
  have hsl : s.length ≤ 100 := by omega
  clear hcc hcs h hc hs ha
  go_enter Tryz.func44, Tryz.ntmps44
  go_wp2_with fail
  have hba := below_alloc w (.cells #[.slice aot T.length capt, .bool fa, .slice aoc c.length capc] 25)
  have HBX : Hid ((w.alloc (.cells #[.slice aot T.length capt, .bool fa, .slice aoc c.length capc] 25)).cell? ⟨w.heap.size, 0, none⟩ = some (.slice aot T.length capt) ∧ (w.alloc (.cells #[.slice aot T.length capt, .bool fa, .slice aoc c.length capc] 25)).cell? ⟨w.heap.size, 2, none⟩ = some (.slice aoc c.length capc)) := ⟨by simp, by simp⟩
  generalize w.alloc (.cells #[.slice aot T.length capt, .bool fa, .slice aoc c.length capc] 25) = W at hba HBX ⊢
  have t2 := HBX.out.2
  go_wp2_with fail
  clear t2
  go_loopw [11] (fun i wr => ∃ k : Nat, k ≤ c.length ∧ i = .int .i64 k ∧ Hid (B = (c.drop k).all fun a => s.getD (idxA T.length a) 0 == a.val) ∧ Below W.heap.size W wr) (fun i _ => c.length - (intOf i).toNat)
  case atStart => exact ⟨0, Nat.zero_le _, rfl, HB.out, Below.refl _ _⟩
  case round =>
    clear HB
    obtain ⟨k, hk, rfl, hn, hb⟩ := hrel
    have t0 := keep_cell hb HBX.out.1
    have hbw := below_more hba hb
    by_cases hlt : k < c.length
    · obtain ⟨x, hx⟩ := get_of_lt hlt
      obtain rfl := hac (ne_nil hlt)
      obtain ⟨c0, c1, c2⟩ := (atmC_keeps _ _ _ _ _ hbw (HC.out k x hx))
      have m0 := World.block_lt_of_cell? _ _ c0
      have m1 := World.block_lt_of_cell? _ _ t0
      simp only at m0 m1
      have hkI : (k : Int) < (c.length : Int) := by omega
      have hxm := List.mem_of_getElem? hx
      have hidx : idxA T.length x < s.length := by rw [HOK.out.2]; exact idxA_lt (HOK.out.1 x hxm)
      obtain ⟨y, hy⟩ := get_of_lt hidx
      have HN : Hid (B = ((y == x.val) && (c.drop (k + 1)).all fun a => s.getD (idxA T.length a) 0 == a.val)) := hn.out.trans (by rw [drop_cons hx, List.all_cons, List.getD, hy]; rfl)
      have s0 := keep_cell hbw (HS.out _ y hy)
      have ms0 := World.block_lt_of_cell? _ _ s0
      simp only at ms0
      have HP1 : Hid (∀ w', Calls Tryz.prog 75 #[.int .i64 T.length, .int .i64 x.thread, .int .i64 x.at'] w' fun e w'' => e = .returned (.int .i64 (idxA T.length x : Nat)) ∧ Below w'.heap.size w' w'') := fun w' => HPO.out x w' hxm
      generalize idxA T.length x = ix at *
      have hixI : (ix : Int) < (s.length : Int) := by omega
      have hix0 : decide ((ix : Int) < 0) = false := by simp
      have hix1 : decide ((s.length : Int) ≤ (ix : Int)) = false := by simp; omega
      have hix2 : decide (s.length ≤ ix) = false := by simp; omega
      clear hn hx hy hxm
      go_wp2_with fail
      refine (HP1.out _).mono ?_
      rintro e w5 ⟨rfl, hb5⟩
      have hba5 := below_alloc wr (.cells #[.int .i64 x.thread, .int .i64 x.at', .int .i64 x.val] 104)
      have hb15 := below_more hba5 hb5
      have a2 := keep_cell hb5 (b := wr.heap.size) (off := 2) (u := .int .i64 x.val) (by simp)
      replace s0 := keep_cell hb15 s0
      have hbW5 := below_more hb hb15
      clear c0 c1 c2 t0 hb5 hba5 hb15 hb
      generalize wr.heap.size = Bx at a2
      have g0 := grown_cell a2
      have g1 := grown_cell s0
      have hnw := grw_some w5
      clear a2 s0
      cases hyv : y == x.val
      · have hyv' : (y != x.val) = true := by simp [bne, hyv]
        have HM : Hid (B = false) := HN.out.trans (by rw [hyv]; rfl)
        go_wp2_with fail
        refine wp_region_grown (by kernel_rfl) (by kernel_rfl) ?_
        repeat (go_big_quiet_step (fail))
        refine wpQuiet_nil ?_
        intro w7 hw7
        obtain ⟨⟨w7', hb7⟩, rfl⟩ := hw7
        clear g0 g1
        go_wp2_with fail
        go_ret
        exact ⟨by rw [HM.out]; rfl, below_more hba (below_more hbW5 hb7)⟩
      · have hyv' : (y != x.val) = false := by simp [bne, hyv]
        have HM : Hid (B = (c.drop (k + 1)).all fun a => s.getD (idxA T.length a) 0 == a.val) := HN.out.trans (by rw [hyv, Bool.true_and])
        go_wp2_with fail
        refine wp_region_grown (by kernel_rfl) (by kernel_rfl) ?_
        repeat (go_big_quiet_step (fail))
        refine wpQuiet_nil ?_
        intro w7 hw7
        obtain ⟨⟨w7', hb7⟩, rfl⟩ := hw7
        clear g0 g1
        go_wp2_with fail
        go_roundw
        case measure => simp [intOf]; omega
        case rel => exact ⟨k + 1, by omega, by go_num, HM.out, below_more hbW5 hb7⟩
    · have HM : Hid (B = true) := hn.out.trans (by rw [drop_nil hlt]; rfl)
      have hkI : (c.length : Int) ≤ (k : Int) := by omega
      clear hn
      go_wp2_with fail
      go_ret
      exact ⟨by rw [HM.out]; rfl, hbw⟩

set_option maxRecDepth 20000 in
theorem named_any (g b : Nat) (w : World) :
    Calls Tryz.prog 45 #[.int .i64 g, .int .i64 b] w fun e w' => e = .returned (.int .i64 (if g == 0 then 0 else if b == 0 then 2 else 1)) ∧ Below w.heap.size w w' := by
  rcases Nat.eq_zero_or_pos g with hg | hg
  · subst hg
    go_enter Tryz.func45, Tryz.ntmps45
    go_wp2_with fail
    go_ret
    exact ⟨rfl, Below.refl _ _⟩
  · have hge : ((g : Int) == 0) = false := by simp; omega
    have hgn : (g == 0) = false := by simp; omega
    rw [hgn]
    rcases Nat.eq_zero_or_pos b with hb | hb
    · subst hb
      go_enter Tryz.func45, Tryz.ntmps45
      go_wp2_with fail
      go_ret
      exact ⟨rfl, Below.refl _ _⟩
    · have hbe : ((b : Int) == 0) = false := by simp; omega
      have hbn : (b == 0) = false := by simp; omega
      rw [hbn]
      go_enter Tryz.func45, Tryz.ntmps45
      go_wp2_with fail
      go_ret
      exact ⟨rfl, Below.refl _ _⟩

end Go.Proofs.YtomijmikkbhgmabGreat

namespace Go.Proofs.YtomijmikkbhgmabGreat
open Go.RowKit

end Go.Proofs.YtomijmikkbhgmabGreat

namespace Go.Proofs.YtomijmikkbhgmabGreat
open Go.RowKit

/-- The first allowed candidate that decides. -/
def witL (n : Nat) (c : List Atm) (fa : Bool) : List (Option (List Int)) → Nat → Option Nat
  | [], _ => none
  | none :: L, i => witL n c fa L (i + 1)
  | some l :: L, i => if metB n c l != fa then some i else witL n c fa L (i + 1)
theorem witL_yes {n : Nat} {c : List Atm} {fa : Bool} {l : List Int} (h : (metB n c l != fa) = true) (L : List (Option (List Int))) (i : Nat) : witL n c fa (some l :: L) i = some i := by rw [witL, if_pos h]
theorem witL_no {n : Nat} {c : List Atm} {fa : Bool} {l : List Int} (h : (metB n c l != fa) = false) (L : List (Option (List Int))) (i : Nat) : witL n c fa (some l :: L) i = witL n c fa L (i + 1) := by rw [witL, if_neg (by simp [h])]

/-- What Witness tells. -/
def WOut (T : List (List Ins)) (c : List Atm) (fa : Bool) (al : Nat → Bool) (w : World) (n : Int) (vf vo : Value) (er : Int) : Prop :=
  ((chk T c).1 ≠ 0 ∧ n = 0 ∧ er = (chk T c).1 ∧ ExeAt w vf vo ⟨[], []⟩) ∨ ((chk T c).1 = 0 ∧ er = 0 ∧
    ((witL T.length c fa (optL al T (evsT T 0) (sizeN (evsT T 0))) 0 = none ∧ n = -1 ∧ ExeAt w vf vo ⟨[], []⟩) ∨
      ∃ k, witL T.length c fa (optL al T (evsT T 0) (sizeN (evsT T 0))) 0 = some k ∧ n = (k : Int) ∧ ExeAt w vf vo (exN (evsT T 0) k)))

end Go.Proofs.YtomijmikkbhgmabGreat
