import Derived.Test.YtomijmikkbhgmabVm
import Derived.Test.YtomijmikkbhgmabT48
import Derived.Test.YtomijmikkbhgmabUe
namespace Go.Proofs.Ytomijmikkbhgmab
open Go.RowKit

theorem chk_lens {T : List (List Ins)} {c : List Atm} (hz : ((chk T c).1 == 0) = true) : 1 ≤ T.length ∧ T.length ≤ 4 ∧ ∀ l ∈ T, l.length ≤ 12 := by
  have hs := chk_zero hz
  obtain ⟨h2, hL, _⟩ := sizeB_parts hs
  refine ⟨?_, h2, fun l hl => ?_⟩
  · unfold sizeB at hs
    simp only [Bool.and_eq_true, decide_eq_true_eq] at hs
    exact hs.1.1.1
  · obtain ⟨k, hk⟩ := List.getElem?_of_mem hl
    exact lensB_get hL hk

set_option maxRecDepth 20000 in
set_option maxHeartbeats 4000000 in
theorem monotone_core (T : List (List Ins)) (fa : Bool) (c : List Atm) (hz : ((chk T c).1 == 0) = true) (n1 n2 n3 : Int) (r1 : -9223372036854775808 ≤ n1 ∧ n1 < 9223372036854775808) (r2 : -9223372036854775808 ≤ n2 ∧ n2 < 9223372036854775808) (r3 : -9223372036854775808 ≤ n3 ∧ n3 < 9223372036854775808) (K : List (List Int × Nat)) (hK : KFit (3 * T.length + 3) K)
    (hmo : ∀ (i p m : Nat) (l : List Ins), T[i]? = some l → p ≤ l.length → m < 3 → ∃ K', ((∀ p' ∈ K', p'.2 ≤ cnOu K p'.1 ∧ p'.1.length ≤ 15 ∧ p'.2 ≤ 2000) ∧ K'.length ≤ 2000) ∧ ∀ (w : World) (vt vc : Value), TestAt w (.agg #[vt, .bool fa, vc]) (T.set i (insI l p ⟨4, 0, 0, 0, (m : Int)⟩)) fa c vt vc → Calls Try.prog 13 #[.agg #[vt, .bool fa, vc]] w fun e w' => ∃ u, e = .returned (.tuple #[u, .bool true]) ∧ (u = .slice none 0 0 ∨ OutAt w' u K') ∧ Below w.heap.size w w')
    (vt vc : Value) (w : World) (h : TestAt w (.agg #[vt, .bool fa, vc]) T fa c vt vc) (hcap : ThrCap w vt T)
    (hout : ∀ w', Below w.heap.size w w' → Calls Try.prog 13 #[.agg #[vt, .bool fa, vc]] w' fun e w'' => ∃ u, e = .returned (.tuple #[u, .bool true]) ∧ Hid (OutAt w'' u K) ∧ Below w'.heap.size w' w'') :
    Calls Try.prog 5 #[.agg #[vt, .bool fa, vc], .int .i64 n1, .int .i64 n2, .int .i64 n3] w fun e w' => e = .returned (.bool true) ∧ Below w.heap.size w w' := by
  obtain ⟨hT1, hT4, hL12⟩ := chk_lens hz
  have HOUT : Hid (∀ w', Below w.heap.size w w' → Calls Try.prog 13 #[.agg #[vt, .bool fa, vc]] w' fun e w'' => ∃ u, e = .returned (.tuple #[u, .bool true]) ∧ Hid (OutAt w'' u K) ∧ Below w'.heap.size w' w'') := hout
  have HP1 : Hid (∀ w', Calls Try.prog 12 #[.int .i64 n1, .int .i64 T.length] w' fun e w'' => ∃ r : Nat, r < T.length ∧ e = .returned (.int .i64 r) ∧ Below w'.heap.size w' w'') := fun w' => pick_any n1 r1 T.length (by omega) w'
  have HP2 : Hid (∀ (w' : World) (k : Nat), k ≤ 12 → Calls Try.prog 12 #[.int .i64 n2, .int .i64 ((k : Int) + 1)] w' fun e w'' => ∃ r : Nat, r < k + 1 ∧ e = .returned (.int .i64 r) ∧ Below w'.heap.size w' w'') := fun w' k hk => by
    have := pick_any n2 r2 (k + 1) (by omega) w'
    rw [Int.natCast_add, Int.natCast_one] at this
    exact this
  have HP3 : Hid (∀ w', Calls Try.prog 12 #[.int .i64 n3, .int .i64 3] w' fun e w'' => ∃ r : Nat, r < 3 ∧ e = .returned (.int .i64 r) ∧ Below w'.heap.size w' w'') := fun w' => pick_any n3 r3 3 (by omega) w'
  have HMO : Hid (∀ (i p m : Nat) (l : List Ins), T[i]? = some l → p ≤ l.length → m < 3 → ∃ K', ((∀ p' ∈ K', p'.2 ≤ cnOu K p'.1 ∧ p'.1.length ≤ 15 ∧ p'.2 ≤ 2000) ∧ K'.length ≤ 2000) ∧ ∀ (w : World) (vt vc : Value), TestAt w (.agg #[vt, .bool fa, vc]) (T.set i (insI l p ⟨4, 0, 0, 0, (m : Int)⟩)) fa c vt vc → Calls Try.prog 13 #[.agg #[vt, .bool fa, vc]] w fun e w' => ∃ u, e = .returned (.tuple #[u, .bool true]) ∧ (u = .slice none 0 0 ∨ OutAt w' u K') ∧ Below w.heap.size w w') := hmo
  have HMR : Hid (∀ (i p m : Nat) (l : List Ins) (w' : World), T[i]? = some l → p ≤ l.length → Below w.heap.size w w' → Calls Try.prog 14 #[.agg #[vt, .bool fa, vc], .int .i64 i, .int .i64 p, .agg #[.int .i64 4, .int .i64 0, .int .i64 0, .int .i64 0, .int .i64 m]] w' fun e w'' => ∃ vt' vc', e = .returned (.agg #[vt', .bool fa, vc']) ∧ Hid (TestAt w'' (.agg #[vt', .bool fa, vc']) (T.set i (insI l p ⟨4, 0, 0, 0, (m : Int)⟩)) fa c vt' vc') ∧ Below w'.heap.size w' w'') := fun i p m l w' hl hp hb => more_any T fa c i p l hl hL12 hT4 hp ⟨4, 0, 0, 0, (m : Int)⟩ vt vc w' (h.keep hb) (hcap.keep hb)
  have HCN : Hid (∀ (w' : World) (u v : Value) (t : List Int), t.length ≤ 1000 → OutAt w' u K → IntAt w' v t → Calls Try.prog 15 #[u, v] w' fun e w'' => e = .returned (.int .i64 (cnOu K t : Nat)) ∧ Below w'.heap.size w' w'') := fun w' u v t ht hu hv => counted_any _ K hK (by omega) t ht u v w' hu hv
  have nq1 : ∀ (w : World) (a : Addr) (n c n' c' : Nat), (binOp .eql 31 (.slice (some a) n c) (.slice none n' c')).run Try.prog w = .ok (.bool false) w := fun w a n c n' c' => Lib.run_eql_slice_nil w _ _ (some a) n c n' c' Try.underlying31
  have nq2 : ∀ (w : World) (n c n' c' : Nat), (binOp .eql 31 (.slice none n c) (.slice none n' c')).run Try.prog w = .ok (.bool true) w := fun w n c n' c' => Lib.run_eql_slice_nil w _ _ none n c n' c' Try.underlying31
  have HKN : Hid (K ≠ [] ∧ K.length ≤ 2000) := ⟨hK.ne, hK.few⟩
  have HTH : Hid (∀ (k : Nat) (l : List Ins), T[k]? = some l → l.length ≤ 12) := fun k l hk => hL12 l (List.mem_of_getElem? hk)
  obtain ⟨ht0, aot, bt', offt', capt, htv, _, _, _⟩ := h.ht.opened
  obtain ⟨hc0, aoc, bc, offc, capc, hsc⟩ := h.hc
  have hcv := hsc.hv
  subst htv hcv
  obtain ⟨l0, hl0⟩ := get_of_lt (l := T) (k := 0) (by omega)
  obtain ⟨bt, offt, _, _, hao, _, _, _⟩ := hcap.opened hl0
  subst hao
  have HTC0 : Hid (∀ (k : Nat) (l : List Ins), T[k]? = some l → ∃ ao2 cap2, w.cell? ⟨bt, offt + k, none⟩ = some (.slice ao2 l.length cap2)) := fun k l hk => by
    obtain ⟨b1, o1, ao2, cap2, e1, h1, _, _⟩ := hcap.opened hk
    cases e1
    exact ⟨ao2, cap2, h1⟩
  clear h hsc hout hmo hcap hK hz hL12 hl0 r1 r2 r3
  go_enter Try.func5, Try.ntmps5
  go_wp2_with fail
  have hba := below_alloc w (.cells #[.slice (some ⟨bt, offt, none⟩) T.length capt, .bool fa, .slice aoc c.length capc] 25)
  refine (HOUT.out _ hba).mono ?_
  rintro e w3 ⟨u3, rfl, hu3, hb3⟩
  have hbw3 := below_more hba hb3
  have HTC : Hid (∀ w', Below w3.heap.size w3 w' → w'.cell? ⟨w.heap.size, 0, none⟩ = some (.slice (some ⟨bt, offt, none⟩) T.length capt) ∧ w'.cell? ⟨w.heap.size, 1, none⟩ = some (.bool fa) ∧ w'.cell? ⟨w.heap.size, 2, none⟩ = some (.slice aoc c.length capc)) := fun w' hb => by
    have t0 := keep_cell hb3 (b := w.heap.size) (off := 0) (u := .slice (some ⟨bt, offt, none⟩) T.length capt) (by simp)
    have t1 := keep_cell hb3 (b := w.heap.size) (off := 1) (u := .bool fa) (by simp)
    have t2 := keep_cell hb3 (b := w.heap.size) (off := 2) (u := .slice aoc c.length capc) (by simp)
    exact ⟨keep_cell hb t0, keep_cell hb t1, keep_cell hb t2⟩
  obtain ⟨r, cap, hform⟩ := hu3.out.form2 HKN.out.1
  subst hform
  have HU : Hid (∀ w', Below w3.heap.size w3 w' → OutAt w' (.slice (some r) K.length cap) K) := fun w' hb => hu3.out.keep hb
  generalize K.length = ln at *
  clear hu3 hb3
  obtain ⟨t0, t1, t2⟩ := HTC.out w3 (Below.refl _ _)
  go_wp2_with fail
  refine (HP1.out w3).mono ?_
  rintro e w4 ⟨i, hi, rfl, hb4⟩
  obtain ⟨l, hl⟩ := get_of_lt (l := T) (k := i) hi
  have hl12 := HTH.out i l hl
  have hbw4 := below_more hbw3 hb4
  obtain ⟨ao2, cap2, ce0⟩ := HTC0.out i l hl
  have ce := keep_cell hbw4 ce0
  have HL : Hid (T[i]? = some l) := hl
  clear t0 t1 t2 ce0 hl HTC0
  generalize hlen : l.length = ll at *
  have HLL : Hid (l.length = ll) := hlen
  clear hlen
  obtain ⟨t0, t1, t2⟩ := HTC.out w4 hb4
  go_wp2_with fail
  refine (HP2.out w4 ll hl12).mono ?_
  rintro e w5 ⟨p, hp, rfl, hb5⟩
  have hb35 := below_more hb4 hb5
  have hbw5 := below_more hbw4 hb5
  clear t0 t1 t2 ce
  obtain ⟨t0, t1, t2⟩ := HTC.out w5 hb35
  go_upto_region 6 with fail
  go_cut [13, 14] from 17 (fun s b wc => ∃ (u : Value) (K' : List (List Int × Nat)), s = u ∧ b = .bool true ∧ Hid (((∀ p' ∈ K', p'.2 ≤ cnOu K p'.1 ∧ p'.1.length ≤ 15 ∧ p'.2 ≤ 2000) ∧ K'.length ≤ 2000) ∧ (u = .slice none 0 0 ∨ OutAt wc u K')) ∧ Below w5.heap.size w5 wc)
  case first =>
    have HR5 : Hid (Below w5.heap.size w5 w5) := Below.refl _ _
    go_region_with (first
      | (go_at_call 12; refine (HP3.out _).mono ?_; rintro e w6 ⟨m, hm, rfl, hb6⟩; have hb56 : Below w5.heap.size w5 w6 := below_more HR5.out.drew hb6; obtain ⟨s0, s1, s2⟩ := HTC.out w6 (below_more hb35 hb56))
      | (go_at_call 14; refine (HMR.out i p m l _ HL.out (by rw [HLL.out]; omega) (below_more hbw5 hb56)).mono ?_; rintro e w7 ⟨vt7, vc7, rfl, ht7, hb7⟩; have hb57 := below_more hb56 hb7; obtain ⟨K', hK', hKc⟩ := HMO.out i p m l HL.out (by rw [HLL.out]; omega) hm; have HKC : Hid (∀ (w : World) (vt vc : Value), TestAt w (.agg #[vt, .bool fa, vc]) (T.set i (insI l p ⟨4, 0, 0, 0, (m : Int)⟩)) fa c vt vc → Calls Try.prog 13 #[.agg #[vt, .bool fa, vc]] w fun e w' => ∃ u, e = .returned (.tuple #[u, .bool true]) ∧ (u = .slice none 0 0 ∨ OutAt w' u K') ∧ Below w.heap.size w w') := hKc; have HKK : Hid ((∀ p' ∈ K', p'.2 ≤ cnOu K p'.1 ∧ p'.1.length ≤ 15 ∧ p'.2 ≤ 2000) ∧ K'.length ≤ 2000) := hK'; clear hK' hKc)
      | (go_at_call 13; refine (HKC.out _ vt7 vc7 ht7.out).mono ?_; rintro e w8 ⟨u8, rfl, hu8, hb8⟩; have hb58 := below_more hb57 hb8; have HU8 : Hid (u8 = .slice none 0 0 ∨ OutAt w8 u8 K') := hu8; clear hu8))
    all_goals
      go_wp2_with fail
      go_meet
      case rel => exact ⟨u8, K', rfl, rfl, ⟨HKK.out, HU8.out⟩, hb58⟩
  case rest =>
    obtain ⟨u, K', hsu, rfl, hK', hbc⟩ := hcut
    replace hsu := hsu.symm
    subst hsu
    have hbwc := below_more hbw5 hbc
    have hb3c := below_more hb35 hbc
    clear t0 t1 t2 HKN HP1 HP2 HP3 HMR HMO HTC HOUT
    rcases hK'.out.2 with rfl | ho
    · go_wp2_with fail
      go_ret
      exact ⟨rfl, hbwc⟩
    · have HKK := hK'.out.1
      obtain ⟨ao, b, off, cap', hu1, ha, hn, hc⟩ := ho
      subst hu1
      have hn' : ao = none → K'.length = 0 ∧ cap' = 0 := fun e => ⟨by rw [(hn e).1]; rfl, (hn e).2⟩
      have HKQ : Hid (∀ p' ∈ K', p'.2 ≤ cnOu K p'.1 ∧ p'.1.length ≤ 15 ∧ p'.2 ≤ 2000) := HKK.1
      have hkl := HKK.2
      have HC : Hid (∀ k p, K'[k]? = some p → OutC wc b (off + k * 2) p) := hc
      clear hK' HKK hc
      cases ao with
      | none =>
        obtain ⟨hk0, rfl⟩ := hn' rfl
        rw [hk0]
        go_wp2_with fail
        go_ret
        exact ⟨rfl, hbwc⟩
      | some aa =>
        clear hn hn'
        go_wp2_with fail
        go_loopw [15] (fun i wr => ∃ k : Nat, k ≤ K'.length ∧ i = .int .i64 k ∧ Below wc.heap.size wc wr) (fun i _ => K'.length - (intOf i).toNat)
        case atStart => exact ⟨0, Nat.zero_le _, rfl, Below.refl _ _⟩
        case round =>
          obtain ⟨k, hk, rfl, hb⟩ := hrel
          by_cases hlt : k < K'.length
          · obtain ⟨q, hq⟩ := get_of_lt hlt
            obtain ⟨q1, q2, q3⟩ := HKQ.out q (List.mem_of_getElem? hq)
            obtain rfl : aa = ⟨b, off, none⟩ := by have := ha (ne_nil hlt); simpa using this
            obtain ⟨u1, c0, c1, hi1⟩ := outC_keeps _ _ _ _ _ hb (HC.out k q hq)
            obtain ⟨a1, p1, e1⟩ := hi1.form
            subst e1
            have HCC : Hid (Calls Try.prog 15 #[.slice (some r) ln cap, .slice a1 q.1.length p1] wr fun e w'' => e = .returned (.int .i64 (cnOu K q.1 : Nat)) ∧ Below wr.heap.size wr w'') := HCN.out wr _ _ q.1 (by omega) (HU.out wr (below_more hb3c hb)) hi1
            have hkI : (k : Int) < (K'.length : Int) := by omega
            have hnl : ¬ ((cnOu K q.1 : Nat) : Int) < (q.2 : Int) := by omega
            clear hi1 hq q1
            generalize q.1.length = lq at *
            generalize cnOu K q.1 = cq at *
            generalize q.2 = nq at *
            go_wp2_with fail
            refine HCC.out.mono ?_
            rintro e w7 ⟨rfl, hb7⟩
            have hb8 := below_more hb hb7
            replace c1 := keep_cell hb7 c1
            clear HCC c0 hb hb7
            go_wp2_with fail
            go_roundw
            case measure => simp [intOf]; omega
            case rel => exact ⟨k + 1, by omega, by go_num, hb8⟩
          · have hkI : (K'.length : Int) ≤ (k : Int) := by omega
            go_wp2_with fail
            go_ret
            exact ⟨rfl, below_more hbwc hb⟩

end Go.Proofs.Ytomijmikkbhgmab

namespace Go.Proofs.Ytomijmikkbhgmab
open Go.RowKit

theorem cnSt_len (L : List (List Int)) (t : List Int) : cnSt L t ≤ L.length := by
  induction L with
  | nil => exact Nat.le_refl _
  | cons a L ih => rw [cnSt, List.length_cons]; split <;> omega

set_option maxRecDepth 20000 in
set_option maxHeartbeats 1000000 in
theorem monotone_any (T : List (List Ins)) (fa : Bool) (c : List Atm) (n1 n2 n3 : Int) (r1 : -9223372036854775808 ≤ n1 ∧ n1 < 9223372036854775808) (r2 : -9223372036854775808 ≤ n2 ∧ n2 < 9223372036854775808) (r3 : -9223372036854775808 ≤ n3 ∧ n3 < 9223372036854775808) (vt vc : Value) (w : World) (h : TestAt w (.agg #[vt, .bool fa, vc]) T fa c vt vc) (hcap : ThrCap w vt T) :
    Calls Try.prog 5 #[.agg #[vt, .bool fa, vc], .int .i64 n1, .int .i64 n2, .int .i64 n3] w fun e w' => e = .returned (.bool true) ∧ Below w.heap.size w w' := by
  obtain ⟨al, hal⟩ := als_ex T (evsT T 0)
  have hout : ∀ w', Below w.heap.size w w' → Calls Try.prog 13 #[.agg #[vt, .bool fa, vc]] w' fun e w'' => ∃ u, e = .returned (.tuple #[u, .bool true]) ∧ KOut T c al w'' u ∧ Below w'.heap.size w' w'' := fun w' hb => outcomesK_any T fa c al hal vt vc w' (h.keep hb)
  cases hz : (chk T c).1 == 0
  · have hne : (chk T c).1 ≠ 0 := by simpa using hz
    have HO : Hid (∀ w', Below w.heap.size w w' → Calls Try.prog 13 #[.agg #[vt, .bool fa, vc]] w' fun e w'' => e = .returned (.tuple #[.slice none 0 0, .bool true]) ∧ Below w'.heap.size w' w'') := fun w' hb => (hout w' hb).mono fun e w'' ⟨u, he, hk, hb'⟩ => by
      rcases hk with ⟨_, rfl⟩ | ⟨h1, _⟩
      · exact ⟨he, hb'⟩
      · exact absurd h1 hne
    obtain ⟨ht0, aot, bt, offt, capt, htv, _⟩ := h.ht.opened
    obtain ⟨hc0, aoc, bc, offc, capc, hsc⟩ := h.hc
    have hcv := hsc.hv
    subst htv hcv
    clear h hsc hout hz hne hal hcap r1 r2 r3
    have nq2 : ∀ (w : World) (n c n' c' : Nat), (binOp .eql 31 (.slice none n c) (.slice none n' c')).run Try.prog w = .ok (.bool true) w := fun w n c n' c' => Lib.run_eql_slice_nil w _ _ none n c n' c' Try.underlying31
    go_enter Try.func5, Try.ntmps5
    go_wp2_with fail
    have hba := below_alloc w (.cells #[.slice aot T.length capt, .bool fa, .slice aoc c.length capc] 25)
    refine (HO.out _ hba).mono ?_
    rintro e w3 ⟨rfl, hb3⟩
    have hbw3 := below_more hba hb3
    go_wp2_with fail
    go_ret
    exact ⟨rfl, hbw3⟩
  · have h0 : (chk T c).1 = 0 := by simpa using hz
    refine monotone_core T fa c hz n1 n2 n3 r1 r2 r3 (outT al T) (outT_fit hal h0) (fun i p m l hl hp hm => ?_) vt vc w h hcap (fun w' hb => (hout w' hb).mono fun e w'' ⟨u, he, hk, hb'⟩ => ?_)
    · obtain ⟨al', hal'⟩ := als_ex (T.set i (insI l p ⟨4, 0, 0, 0, (m : Int)⟩)) (evsT (T.set i (insI l p ⟨4, 0, 0, 0, (m : Int)⟩)) 0)
      by_cases hz' : (chk (T.set i (insI l p ⟨4, 0, 0, 0, (m : Int)⟩)) c).1 = 0
      · have hf := outT_fit hal' hz'
        have hT4 := (chk_lens hz).2.1
        refine ⟨outT al' (T.set i (insI l p ⟨4, 0, 0, 0, (m : Int)⟩)), ⟨fun q hq => ⟨?_, ?_, ?_⟩, hf.few⟩, fun w' vt' vc' ht => (outcomesK_any _ fa c al' hal' vt' vc' w' ht).mono fun e w'' ⟨u, he, hk, hb'⟩ => ?_⟩
        · have := out_more (z := ⟨4, 0, 0, 0, (m : Int)⟩) rfl hl hp hal hal' q.1
          rw [cnOu_at hf.srt hq] at this
          exact this
        · have := hf.len q hq
          rw [List.length_set] at this
          omega
        · have h1 := cnOu_at hf.srt hq
          rw [outT_cnt] at h1
          have h2 := cnSt_len ((casN al' (sizeN (evsT (T.set i (insI l p ⟨4, 0, 0, 0, (m : Int)⟩)) 0))).map fun n => stX (T.set i (insI l p ⟨4, 0, 0, 0, (m : Int)⟩)) (evsT (T.set i (insI l p ⟨4, 0, 0, 0, (m : Int)⟩)) 0) (exN (evsT (T.set i (insI l p ⟨4, 0, 0, 0, (m : Int)⟩)) 0) n)) q.1
          rw [List.length_map] at h2
          have h3 := casN_len al' (sizeN (evsT (T.set i (insI l p ⟨4, 0, 0, 0, (m : Int)⟩)) 0))
          have h4 := chk_many_no (T := T.set i (insI l p ⟨4, 0, 0, 0, (m : Int)⟩)) (c := c) (by simpa using hz')
          omega
        · rcases hk with ⟨h1, _⟩ | ⟨_, h1⟩
          · exact absurd hz' h1
          · exact ⟨u, he, .inr h1, hb'⟩
      · refine ⟨[], ⟨fun q hq => (by cases hq), Nat.zero_le _⟩, fun w' vt' vc' ht => (outcomesK_any _ fa c al' hal' vt' vc' w' ht).mono fun e w'' ⟨u, he, hk, hb'⟩ => ?_⟩
        rcases hk with ⟨_, h1⟩ | ⟨h1, _⟩
        · exact ⟨u, he, .inl h1, hb'⟩
        · exact absurd h1 hz'
    · rcases hk with ⟨h1, _⟩ | ⟨_, h1⟩
      · exact absurd h0 h1
      · exact ⟨u, he, h1, hb'⟩

end Go.Proofs.Ytomijmikkbhgmab

namespace Go.Proofs.Ytomijmikkbhgmab
open Go.RowKit

theorem mayB_op {x : Ins} (h : mayB x = true) : 0 ≤ x.op := by
  by_cases hn : 0 ≤ x.op
  · exact hn
  · exfalso
    have e : ∀ v : Int, 0 ≤ v → (x.op == v) = false := fun v hv => by simp; omega
    unfold mayB at h
    simp only [e 0 (by omega), e 1 (by omega), e 2 (by omega), e 3 (by omega), e 4 (by omega), e 5 (by omega), e 6 (by omega), e 7 (by omega)] at h
    simp at h

abbrev alT (T : List (List Ins)) : Nat → Bool := fun n => alB T (evsT T 0) (exN (evsT T 0) n)

/-- What comes out of a test and of its other one. -/
structure RnK (T : List (List Ins)) (K : List (List Int × Nat)) (i j k m : Nat) (K' : List (List Int × Nat)) : Prop where
  few : K'.length ≤ 2000
  len : K'.length = K.length
  wid : ∀ p ∈ K', p.1.length = 3 * T.length + 3
  cnt : ∀ p ∈ K', cnOu K (renS T.length (sigT i j) k m p.1) = p.2
  ne : K' ≠ []

theorem rnK_of {T : List (List Ins)} {c : List Atm} (hz : ((chk T c).1 == 0) = true) (i j k m : Nat) (hi : i < T.length) (hj : j < T.length) (hk : k < 3) (hm : m < 3) : ((chk (swT T i j k m) []).1 == 0) = true ∧ RnK T (outT (alT T) T) i j k m (outT (alT (swT T i j k m)) (swT T i j k m)) := by
  have lk : locB (k : Int) = true := by unfold locB; simp; omega
  have lm : locB (m : Int) = true := by unfold locB; simp; omega
  obtain ⟨hz', hR, hn, hn'⟩ := ren_chk hz (swT_ren T hi hj (k : Int) (m : Int)) lk lm
  have h0 : (chk T c).1 = 0 := by simpa using hz
  have h0' : (chk (swT T i j k m) []).1 = 0 := by simpa using hz'
  have hf := outT_fit (als_alB T (evsT T 0)) h0
  have hf' := outT_fit (als_alB (swT T i j k m) (evsT (swT T i j k m) 0)) h0'
  refine ⟨hz', hf'.few, ?_, fun p hp => ?_, fun p hp => ?_, hf'.ne⟩
  · have h1 := ren_outLen hR hn hn' (als_alB T (evsT T 0)) (als_alB (swT T i j k m) (evsT (swT T i j k m) 0)) hf
    have h2 := ren_outLen hR.symm hn' hn (als_alB (swT T i j k m) (evsT (swT T i j k m) 0)) (als_alB T (evsT T 0)) hf'
    exact Nat.le_antisymm h2 h1
  · have := hf'.len p hp
    rw [swT_len] at this
    exact this
  · have := ren_out hR.symm hn' hn (als_alB (swT T i j k m) (evsT (swT T i j k m) 0)) (als_alB T (evsT T 0)) hf' p hp
    rw [swT_len] at this
    exact this

set_option maxRecDepth 20000 in
set_option maxHeartbeats 4000000 in
theorem renamed_core (T : List (List Ins)) (fa : Bool) (c : List Atm) (hz : ((chk T c).1 == 0) = true) (n1 n2 n3 n4 : Int) (r1 : -9223372036854775808 ≤ n1 ∧ n1 < 9223372036854775808) (r2 : -9223372036854775808 ≤ n2 ∧ n2 < 9223372036854775808) (r3 : -9223372036854775808 ≤ n3 ∧ n3 < 9223372036854775808) (r4 : -9223372036854775808 ≤ n4 ∧ n4 < 9223372036854775808)
    (vt vc : Value) (w : World) (h : TestAt w (.agg #[vt, .bool fa, vc]) T fa c vt vc)
    (hout : ∀ w', Below w.heap.size w w' → Calls Try.prog 13 #[.agg #[vt, .bool fa, vc]] w' fun e w'' => ∃ u, e = .returned (.tuple #[u, .bool true]) ∧ Hid (OutAt w'' u (outT (alT T) T)) ∧ Below w'.heap.size w' w'') :
    Calls Try.prog 6 #[.agg #[vt, .bool fa, vc], .int .i64 n1, .int .i64 n2, .int .i64 n3, .int .i64 n4] w fun e w' => e = .returned (.bool true) ∧ Below w.heap.size w w' := by
  obtain ⟨hT1, hT4, hL12⟩ := chk_lens hz
  have h0 : (chk T c).1 = 0 := by simpa using hz
  have hK : KFit (3 * T.length + 3) (outT (alT T) T) := outT_fit (als_alB T (evsT T 0)) h0
  have hop : ∀ l ∈ T, ∀ x ∈ l, 0 ≤ x.op := fun l hl x hx => mayB_op (chk_may hz l hl x hx)
  have HOUT : Hid (∀ w', Below w.heap.size w w' → Calls Try.prog 13 #[.agg #[vt, .bool fa, vc]] w' fun e w'' => ∃ u, e = .returned (.tuple #[u, .bool true]) ∧ Hid (OutAt w'' u (outT (alT T) T)) ∧ Below w'.heap.size w' w'') := hout
  have HP1 : Hid (∀ w', Calls Try.prog 12 #[.int .i64 n1, .int .i64 T.length] w' fun e w'' => ∃ r : Nat, r < T.length ∧ e = .returned (.int .i64 r) ∧ Below w'.heap.size w' w'') := fun w' => pick_any n1 r1 T.length (by omega) w'
  have HP2 : Hid (∀ w', Calls Try.prog 12 #[.int .i64 n2, .int .i64 T.length] w' fun e w'' => ∃ r : Nat, r < T.length ∧ e = .returned (.int .i64 r) ∧ Below w'.heap.size w' w'') := fun w' => pick_any n2 r2 T.length (by omega) w'
  have HP3 : Hid (∀ w', Calls Try.prog 12 #[.int .i64 n3, .int .i64 3] w' fun e w'' => ∃ r : Nat, r < 3 ∧ e = .returned (.int .i64 r) ∧ Below w'.heap.size w' w'') := fun w' => pick_any n3 r3 3 (by omega) w'
  have HP4 : Hid (∀ w', Calls Try.prog 12 #[.int .i64 n4, .int .i64 3] w' fun e w'' => ∃ r : Nat, r < 3 ∧ e = .returned (.int .i64 r) ∧ Below w'.heap.size w' w'') := fun w' => pick_any n4 r4 3 (by omega) w'
  have HSW : Hid (∀ (i j k m : Nat) (w' : World), i < T.length → j < T.length → Below w.heap.size w w' → Calls Try.prog 16 #[.agg #[vt, .bool fa, vc], .int .i64 i, .int .i64 j, .int .i64 k, .int .i64 m] w' fun e w'' => ∃ vt' vc', e = .returned (.agg #[vt', .bool fa, vc']) ∧ Hid (TestAt w'' (.agg #[vt', .bool fa, vc']) (swT T i j k m) fa [] vt' vc') ∧ Below w'.heap.size w' w'') := fun i j k m w' hi hj hb => swapped_any T fa c i j hi hj k m hop hL12 hT4 vt vc w' (h.keep hb)
  have HRK : Hid (∀ (i j k m : Nat), i < T.length → j < T.length → k < 3 → m < 3 → ∃ K', RnK T (outT (alT T) T) i j k m K' ∧ ∀ (w' : World) (vt' vc' : Value), TestAt w' (.agg #[vt', .bool fa, vc']) (swT T i j k m) fa [] vt' vc' → Calls Try.prog 13 #[.agg #[vt', .bool fa, vc']] w' fun e w'' => ∃ u, e = .returned (.tuple #[u, .bool true]) ∧ Hid (OutAt w'' u K') ∧ Below w'.heap.size w' w'') := fun i j k m hi hj hk hm => by
    obtain ⟨hz', hr⟩ := rnK_of hz i j k m hi hj hk hm
    refine ⟨_, hr, fun w' vt' vc' ht => (outcomesK_any (swT T i j k m) fa [] _ (als_alB _ _) vt' vc' w' ht).mono fun e w'' ⟨u, he, hk, hb'⟩ => ?_⟩
    rcases hk with ⟨h1, _⟩ | ⟨_, h1⟩
    · exact absurd (by simpa using hz') h1
    · exact ⟨u, he, h1, hb'⟩
  have HCN : Hid (∀ (w' : World) (u v : Value) (t : List Int), t.length ≤ 1000 → OutAt w' u (outT (alT T) T) → IntAt w' v t → Calls Try.prog 15 #[u, v] w' fun e w'' => e = .returned (.int .i64 (cnOu (outT (alT T) T) t : Nat)) ∧ Below w'.heap.size w' w'') := fun w' u v t ht hu hv => counted_any _ _ hK (by omega) t ht u v w' hu hv
  have HRN : Hid (∀ (s : List Int) (i j k m : Nat) (w' : World) (v : Value), s.length = 3 * T.length + 3 → i < T.length → j < T.length → k < 3 → m < 3 → IntAt w' v s → Calls Try.prog 17 #[v, .int .i64 T.length, .int .i64 i, .int .i64 j, .int .i64 k, .int .i64 m] w' fun e w'' => ∃ u, e = .returned u ∧ Hid (IntAt w'' u (renS T.length (sigT i j) k m s)) ∧ Below w'.heap.size w' w'') := fun s i j k m w' v hs hi hj hk hm hv => renamed_any s T.length i j k m hT4 hs hi hj hk hm v w' hv
  have HRL : Hid (∀ (s : List Int) (i j k m : Nat), (renS T.length (sigT i j) k m s).length = 3 * T.length + 3) := fun s i j k m => by
    unfold renS
    rw [List.length_append, flat_len _ 3 (fun _ => by simp)]
    simp
    omega
  have nq1 : ∀ (w : World) (a : Addr) (n c n' c' : Nat), (binOp .eql 31 (.slice (some a) n c) (.slice none n' c')).run Try.prog w = .ok (.bool false) w := fun w a n c n' c' => Lib.run_eql_slice_nil w _ _ (some a) n c n' c' Try.underlying31
  have HKN : Hid (outT (alT T) T ≠ [] ∧ (outT (alT T) T).length ≤ 2000) := ⟨hK.ne, hK.few⟩
  generalize outT (alT T) T = K at *
  obtain ⟨ht0, aot, bt', offt', capt, htv, _, _, _⟩ := h.ht.opened
  obtain ⟨hc0, aoc, bc, offc, capc, hsc⟩ := h.hc
  have hcv := hsc.hv
  subst htv hcv
  clear h hsc hout hK hz hL12 h0 r1 r2 r3 r4 hop
  go_enter Try.func6, Try.ntmps6
  go_wp2_with fail
  have hba := below_alloc w (.cells #[.slice aot T.length capt, .bool fa, .slice aoc c.length capc] 25)
  refine (HOUT.out _ hba).mono ?_
  rintro e w3 ⟨u3, rfl, hu3, hb3⟩
  have hbw3 := below_more hba hb3
  have HTC : Hid (∀ w', Below w3.heap.size w3 w' → w'.cell? ⟨w.heap.size, 0, none⟩ = some (.slice aot T.length capt) ∧ w'.cell? ⟨w.heap.size, 1, none⟩ = some (.bool fa) ∧ w'.cell? ⟨w.heap.size, 2, none⟩ = some (.slice aoc c.length capc)) := fun w' hb => by
    have t0 := keep_cell hb3 (b := w.heap.size) (off := 0) (u := .slice aot T.length capt) (by simp)
    have t1 := keep_cell hb3 (b := w.heap.size) (off := 1) (u := .bool fa) (by simp)
    have t2 := keep_cell hb3 (b := w.heap.size) (off := 2) (u := .slice aoc c.length capc) (by simp)
    exact ⟨keep_cell hb t0, keep_cell hb t1, keep_cell hb t2⟩
  obtain ⟨r, cap, hform⟩ := hu3.out.form2 HKN.out.1
  subst hform
  have HU : Hid (∀ w', Below w3.heap.size w3 w' → OutAt w' (.slice (some r) K.length cap) K) := fun w' hb => hu3.out.keep hb
  have hln := HKN.out.2
  generalize hLK : K.length = ln at *
  have HLK : Hid (K.length = ln) := hLK
  clear hu3 hb3 hLK
  obtain ⟨t0, t1, t2⟩ := HTC.out w3 (Below.refl _ _)
  go_wp2_with fail
  refine (HP1.out w3).mono ?_
  rintro e w4 ⟨i, hi, rfl, hb4⟩
  clear t0 t1 t2
  go_wp2_with fail
  refine (HP2.out w4).mono ?_
  rintro e w5 ⟨j, hj, rfl, hb5⟩
  go_wp2_with fail
  refine (HP3.out w5).mono ?_
  rintro e w6 ⟨k, hk, rfl, hb6⟩
  go_wp2_with fail
  refine (HP4.out w6).mono ?_
  rintro e w7 ⟨m, hm, rfl, hb7⟩
  have hb37 := below_more (below_more (below_more hb4 hb5) hb6) hb7
  have hbw7 := below_more hbw3 hb37
  clear hb4 hb5 hb6 hb7
  obtain ⟨t0, t1, t2⟩ := HTC.out w7 hb37
  obtain ⟨K', hRK, hKc⟩ := HRK.out i j k m hi hj hk hm
  have HRKK : Hid (RnK T K i j k m K') := hRK
  have HKC : Hid (∀ (w' : World) (vt' vc' : Value), TestAt w' (.agg #[vt', .bool fa, vc']) (swT T i j k m) fa [] vt' vc' → Calls Try.prog 13 #[.agg #[vt', .bool fa, vc']] w' fun e w'' => ∃ u, e = .returned (.tuple #[u, .bool true]) ∧ Hid (OutAt w'' u K') ∧ Below w'.heap.size w' w'') := hKc
  clear hRK hKc
  go_wp2_with fail
  refine (HSW.out i j k m w7 hi hj hbw7).mono ?_
  rintro e w8 ⟨vt8, vc8, rfl, ht8, hb8⟩
  clear t0 t1 t2
  go_wp2_with fail
  refine (HKC.out w8 vt8 vc8 ht8.out).mono ?_
  rintro e w9 ⟨u9, rfl, hu9, hb9⟩
  have hb79 := below_more hb8 hb9
  have hb39 := below_more hb37 hb79
  have hbw9 := below_more hbw7 hb79
  obtain ⟨r', cap', hform⟩ := hu9.out.form2 HRKK.out.ne
  subst hform
  obtain ⟨ao, b, off, cap2, hu1, ha, _, hc⟩ := hu9.out
  simp only [Value.slice.injEq] at hu1
  obtain ⟨hrr, -, rfl⟩ := hu1
  obtain rfl := ha HRKK.out.ne
  cases hrr
  have hlen : K'.length = ln := by rw [HRKK.out.len]; exact HLK.out
  have HC : Hid (∀ k p, K'[k]? = some p → OutC w9 b (off + k * 2) p) := hc
  have HLL : Hid (K'.length = ln) := hlen
  rw [hlen]
  clear ht8 hu9 ha hc hlen hb8 hb9 hb79 HKC HSW HRK HP1 HP2 HP3 HP4 HTC HOUT HKN
  go_wp2_with fail
  go_loopw [20] (fun x wr => ∃ q : Nat, q ≤ ln ∧ x = .int .i64 q ∧ Below w9.heap.size w9 wr) (fun x _ => ln - (intOf x).toNat)
  case atStart => exact ⟨0, Nat.zero_le _, rfl, Below.refl _ _⟩
  case round =>
    obtain ⟨q, hq, rfl, hb⟩ := hrel
    by_cases hlt : q < ln
    · have hqI : (q : Int) < (ln : Int) := by omega
      obtain ⟨p, hp⟩ := get_of_lt (l := K') (k := q) (by rw [HLL.out]; exact hlt)
      have hpm := List.mem_of_getElem? hp
      have hpl := HRKK.out.wid p hpm
      have hpc := HRKK.out.cnt p hpm
      obtain ⟨u1, c0, c1, hi1⟩ := outC_keeps _ _ _ _ _ hb (HC.out q p hp)
      obtain ⟨a1, p1, e1⟩ := hi1.form
      subst e1
      have HRR : Hid (Calls Try.prog 17 #[.slice a1 p.1.length p1, .int .i64 T.length, .int .i64 i, .int .i64 j, .int .i64 k, .int .i64 m] wr fun e w'' => ∃ u, e = .returned u ∧ Hid (IntAt w'' u (renS T.length (sigT i j) k m p.1)) ∧ Below wr.heap.size wr w'') := HRN.out p.1 i j k m wr _ hpl hi hj hk hm hi1
      have HPC : Hid (cnOu K (renS T.length (sigT i j) k m p.1) = p.2) := hpc
      generalize p.1.length = lp at *
      clear hp hpm hpl hi1 hpc
      go_wp2_with fail
      refine HRR.out.mono ?_
      rintro e w10 ⟨u10, rfl, hu10, hb10⟩
      have HCC : Hid (Calls Try.prog 15 #[.slice (some r) ln cap, u10] w10 fun e w'' => e = .returned (.int .i64 p.2) ∧ Below w10.heap.size w10 w'') := by
        have := HCN.out w10 (.slice (some r) ln cap) u10 (renS T.length (sigT i j) k m p.1) (by rw [HRL.out]; omega) (HU.out w10 (below_more hb39 (below_more hb hb10))) hu10.out
        rw [HPC.out] at this
        exact this
      replace c1 := keep_cell hb10 c1
      clear c0 hu10 HRR HPC
      generalize p.2 = pn at *
      go_wp2_with fail
      refine HCC.out.mono ?_
      rintro e w11 ⟨rfl, hb11⟩
      replace c1 := keep_cell hb11 c1
      have hbf := below_more hb (below_more hb10 hb11)
      clear hb10 hb11 HCC hb
      go_wp2_with fail
      go_roundw
      case measure => simp [intOf]; omega
      case rel => exact ⟨q + 1, by omega, by go_num, hbf⟩
    · have hqI : ¬ (q : Int) < (ln : Int) := by omega
      go_wp2_with fail
      go_ret
      exact ⟨rfl, below_more hbw9 hb⟩

end Go.Proofs.Ytomijmikkbhgmab
