import Derived.Test.YtomijmikkbhgmaaGreatT42
import Derived.Test.YtomijmikkbhgmaaGreatT7
import Derived.Test.YtomijmikkbhgmaaGreatT31
import Derived.Test.YtomijmikkbhgmaaGreatT37
namespace Go.Proofs.YtomijmikkbhgmaaGreat
open Go.RowKit


/-- Of a candidate the order of the writes of location j. -/
def ordJ (E : List Evt) (n j : Nat) : List Int := chO n (wrs E 0 (j : Int)).length (wrs E 0 (j : Int)) (facL E j)
theorem exN_order (E : List Evt) (n : Nat) : (exN E n).order = (List.range 3).map (ordJ E n) := rfl

theorem Only.setCellN (B o : Nat) (u : Value) (w : World) : Only B w (w.setCell ⟨B, o, none⟩ u) :=
  ⟨rfl, rfl, rfl, by simp [World.setCell], fun k _ hn => Below.heap_setCell w ⟨B, o, none⟩ u k hn⟩

/-- What Nth answers: no such candidate. -/
def noExe : Value := .tuple #[.agg #[.slice none 0 0, .slice none 0 0], .int .i64 6]

theorem own2s {w w3 : World} {a b : Value} {t : TypeId} (hb : Below (w.heap.size + 1) (w.alloc (.cells #[a, b] t)) w3) :
    w3.cell? ⟨w.heap.size, 0, none⟩ = some a ∧ w3.cell? ⟨w.heap.size, 1, none⟩ = some b ∧ w3.frozen? ⟨w.heap.size, 0, none⟩ = false ∧ w3.frozen? ⟨w.heap.size, 1, none⟩ = false ∧ w.heap.size < w3.heap.size := by
  have h1 := hb.cell (p := ⟨w.heap.size, 0, none⟩) (by simp)
  have h2 := hb.cell (p := ⟨w.heap.size, 1, none⟩) (by simp)
  have h3 := hb.frozen (p := ⟨w.heap.size, 0, none⟩) (by simp)
  have h4 := hb.frozen (p := ⟨w.heap.size, 1, none⟩) (by simp)
  have h5 := hb.size
  simp at h1 h2 h3 h4 h5
  exact ⟨h1, h2, h3, h4, by omega⟩

set_option maxHeartbeats 2000000 in
theorem nth_no (E : List Evt) (hE : E.length ≤ 96) (v : Value) (n : Int) (w : World) (h : Ev4At w v E) (hn : n < 0 ∨ (sizeN E : Int) ≤ n) (hs : sizeN E ≤ 2000) :
    Calls Tryz.prog 119 #[v, .int .i64 n] w fun e w' => e = .returned noExe ∧ Below w.heap.size w w' := by
  have HH : Hid (Ev4At w v E) := h
  have hS : cap2 (sizeN E) = sizeN E := cap2_of_le (by omega)
  generalize hSS : sizeN E = S at hn hs hS
  have HS : Hid (cap2 (sizeN E) = S) := by rw [hSS]; exact hS
  clear hS hSS h
  rcases hn with hn | hn
  all_goals
    go_enter Tryz.func119, Tryz.ntmps119
    go_wp2_with fail
    refine (countP_any E hE v _ (HH.out.keep (below_alloc _ _))).mono ?_
    rw [HS.out]
    rintro e w3 ⟨rfl, hb3⟩
    rw [World.size_alloc] at hb3
    obtain ⟨d0, d1, f0, f1, s3⟩ := own2s hb3
    have hb4 : Below w.heap.size w w3 := (below_alloc _ _).trans (hb3.mono (by omega))
    clear hb3
    go_wp2_with fail
    exact bodyPost_ret (v := .tuple #[.agg #[.slice none 0 0, .slice none 0 0], .int .i64 6]) (by simp [results, Tryz.results119, go_sem, *]) rfl
      ⟨rfl, (hb4.setCell (Nat.le_refl _) _).setCell (Nat.le_refl _) _⟩

/-- An execution that is new: from block B on. -/
structure ExeN (B : Nat) (w : World) (vf vo : Value) (x : Exe) : Prop where
  f : ∃ ao b off cap, SlAt w 1 IntC vf x.from' ao b off cap ∧ B ≤ b
  o : LstNew B w vo x.order
theorem ExeN.at' {B : Nat} {w : World} {vf vo : Value} {x : Exe} (h : ExeN B w vf vo x) : ExeAt w vf vo x := by
  obtain ⟨ao, b, off, cap, hs, _⟩ := h.f
  exact ⟨⟨ao, b, off, cap, hs⟩, h.o.at'⟩
theorem ExeN.other {B : Nat} {w w' : World} {vf vo : Value} {x : Exe} (h : ExeN B w vf vo x) (hs : ∀ b, B ≤ b → b < w.heap.size → w'.heap[b]? = w.heap[b]?) : ExeAt w' vf vo x := by
  obtain ⟨ao, b, off, cap, ⟨hv, ha, hn, hc⟩, hB⟩ := h.f
  obtain ⟨ao2, b2, off2, cap2, hv2, ha2, hn2, hB2, hc2⟩ := h.o
  refine ⟨⟨ao, b, off, cap, hv, ha, hn, fun k y hy => ?_⟩, ao2, b2, off2, cap2, hv2, ha2, hn2, fun k y hy => ?_⟩
  · have hcc := hc k y hy
    exact cell_heap (hs b hB (World.block_lt_of_cell? _ _ hcc)) hcc
  · obtain ⟨u, h1, h2, h3⟩ := hc2 k y hy
    rw [Nat.mul_one]
    exact ⟨u, cell_heap (hs b2 hB2 (World.block_lt_of_cell? _ _ h1)) h1, (h2.other (fun g hg => hs g (h3 g hg).1 (h3 g hg).2)).at'⟩
theorem LstNew.less {B B' : Nat} {w : World} {v : Value} {L : List (List Int)} (h : LstNew B w v L) (hb : B' ≤ B) : LstNew B' w v L := by
  obtain ⟨ao, b, off, cap, hv, ha, hn, hB, hc⟩ := h
  refine ⟨ao, b, off, cap, hv, ha, hn, Nat.le_trans hb hB, fun k x hx => ?_⟩
  obtain ⟨u, h1, h2, h3⟩ := hc k x hx
  exact ⟨u, h1, h2, fun g hg => ⟨Nat.le_trans hb (h3 g hg).1, (h3 g hg).2⟩⟩

set_option maxHeartbeats 4000000 in
theorem nth_new (E : List Evt) (hE : E.length ≤ 96) (v : Value) (n : Nat) (w : World) (h : Ev4At w v E) (hn : n < sizeN E) (hs : sizeN E ≤ 2000) :
    Calls Tryz.prog 119 #[v, .int .i64 n] w fun e w' => ∃ vf vo, e = .returned (.tuple #[.agg #[vf, vo], .int .i64 0]) ∧ ExeN w.heap.size w' vf vo (exN E n) ∧ Below w.heap.size w w' := by
  have HH : Hid (Ev4At w v E) := h
  have hS : cap2 (sizeN E) = sizeN E := cap2_of_le (by omega)
  have hP : sizeN E = plen (rdo E E) * facL E 0 := by rw [plen_rdo]; rfl
  have HX : Hid ((exN E n).from' = chF n (rdo E E) (sizeN E)) := rfl
  generalize hSS : sizeN E = S at hn hs hS hP HX
  have HS : Hid (cap2 (sizeN E) = S) := by rw [hSS]; exact hS
  have HP : Hid (S = plen (rdo E E) * facL E 0) := hP
  clear hS hSS h hP
  obtain ⟨i0, hi, hz0, hz1, hz2⟩ := info_parts Tryz.infoInts
  have HI : Hid (Tryz.prog.info? 26 = some i0 ∧ i0.zero = some (.slice none 0 0) ∧ i0.size = 1 ∧ i0.bytes = 24) := ⟨hi, hz0, hz1, hz2⟩
  clear hi hz0 hz1 hz2
  go_enter Tryz.func119, Tryz.ntmps119
  go_wp2_with fail
  refine (countP_any E hE v _ (HH.out.keep (below_alloc _ _))).mono ?_
  rw [HS.out]
  rintro e w3 ⟨rfl, hb3⟩
  rw [World.size_alloc] at hb3
  obtain ⟨d0, d1, f0, f1, s3⟩ := own2s hb3
  have hb4 : Below w.heap.size w w3 := (below_alloc _ _).trans (hb3.mono (by omega))
  clear hb3
  go_wp2_with fail
  have hC0 : Chs (w3.alloc (.cells #[.int .i64 n, .int .i64 S] 184)) w3.heap.size n S := ⟨by simp, by simp, by simp, by simp⟩
  refine (chooseFrom_any E hE v w _ HH.out (hb4.alloc hb4.size _) w3.heap.size n S (facL E 0) hb4.size hC0 HP.out (facL_pos E 0) (by omega) (by omega)).mono ?_
  rintro e w5 ⟨uf, rfl, huf, hC5, hO5⟩
  obtain ⟨aof, bf, off, capf, hslf, hbf⟩ := huf
  rw [World.size_alloc] at hbf
  have hO3 : Only w3.heap.size w3 w5 := (Only.of_below (below_alloc _ _)).trans hO5
  replace d0 := hO3.cell d0 (by omega)
  replace d1 := hO3.cell d1 (by omega)
  have hfz : ∀ o, w5.frozen? ⟨w.heap.size, o, none⟩ = w3.frozen? ⟨w.heap.size, o, none⟩ := fun o => World.frozen?_of_block (w := w3) (hO3.block w.heap.size (by omega) (by omega))
  replace f0 := (hfz 0).trans f0
  replace f1 := (hfz 1).trans f1
  have hb5 : Below w.heap.size w w5 := hb4.trans (hO3.below hb4.size hb4.size)
  have hs5 : w3.heap.size + 1 ≤ w5.heap.size := by have := hO5.size; simpa using this
  generalize w3.heap.size = B at hC5 hO5 hO3 hbf hs5 s3 ⊢
  have HF : Hid (SlAt w5 1 IntC uf (chF n (rdo E E) S) aof bf off capf) := hslf
  have HC5 : Hid (Chs w5 B n (facL E 0)) := hC5
  clear hslf hC5 hO5 hO3 hC0 hfz
  go_wp2_with fail
  go_loopw [9, 10] (fun u i wr => ∃ (j : Nat) (aoV : Option Addr) (capV : Nat) (vs : List Value), j ≤ 3 ∧ i = .int .i64 j ∧ u = .slice aoV j capV ∧ LL wr w5.heap.size (.slice aoV j capV) ((List.range j).map (ordJ E n)) vs ∧ Chs wr B n (facL E j) ∧ Only B w5 wr) (fun _ i _ => 3 - (intOf i).toNat)
  case atStart => exact ⟨0, none, 0, [], by omega, rfl, rfl, LL.nil _ _, HC5.out, Only.refl _ _⟩
  case round =>
    obtain ⟨j, aoV, capV, vs, hj, rfl, rfl, hLL, hch, ho⟩ := hrel
    have HLL : Hid (LL wr w5.heap.size (.slice aoV j capV) ((List.range j).map (ordJ E n)) vs) := hLL
    have HCH : Hid (Chs wr B n (facL E j)) := hch
    have HO : Hid (Only B w5 wr) := ho
    have hsz := ho.size
    have hBl := hch.lt
    clear hLL hch ho HC5
    by_cases hlt : j < 3
    · have hbr : Below w.heap.size w wr := hb5.trans (HO.out.below (by omega) hb5.size)
      have hwl := wrs_len E 0 (j : Int)
      have HST : Hid (facL E j = fac (wrs E 0 (j : Int)).length * facL E (j + 1)) := facL_step E j hlt
      have HOJ : Hid (ordJ E n j = chO n (wrs E 0 (j : Int)).length (wrs E 0 (j : Int)) (facL E j)) := rfl
      have hle : facL E j ≤ 2001 := by
        have h1 : facL E j ≤ facL E 0 := by
          have a := fac_pos (wrs E 0 0).length
          have b := fac_pos (wrs E 0 1).length
          have e0 : facL E 0 = fac (wrs E 0 0).length * facL E 1 := rfl
          have e1 : facL E 1 = fac (wrs E 0 1).length * facL E 2 := rfl
          have h01 : facL E 1 ≤ facL E 0 := by rw [e0]; exact Nat.le_mul_of_pos_left _ a
          have h12 : facL E 2 ≤ facL E 1 := by rw [e1]; exact Nat.le_mul_of_pos_left _ b
          match j, hlt with
          | 0, _ => exact Nat.le_refl _
          | 1, _ => exact h01
          | 2, _ => exact Nat.le_trans h12 h01
        have h2 : facL E 0 ≤ S := by rw [HP.out]; exact Nat.le_mul_of_pos_left _ (plen_pos (rdo_pos E E))
        omega
      generalize hW : wrs E 0 (j : Int) = W at hwl HST HOJ
      have HW : Hid (wrs E 0 (j : Int) = W) := hW
      clear hW
      go_wp2_with fail
      refine (writesP_any E hE j v _ (HH.out.keep hbr)).mono ?_
      rw [HW.out]
      rintro e w6 ⟨u2, rfl, hu2, hb6⟩
      obtain ⟨ao2, b2, off2, cap2', hsl2, hb2⟩ := hu2
      have HLL6 : Hid (LL w6 w5.heap.size (.slice aoV j capV) ((List.range j).map (ordJ E n)) vs) := HLL.out.keep hb6
      have HCH6 : Hid (Chs w6 B n (facL E j)) := HCH.out.below hb6
      have HO6 : Hid (Only B w5 w6) := HO.out.trans (Only.of_below hb6)
      have hs6 := hb6.size
      have HSL : Hid (SlAt w6 1 IntC u2 W ao2 b2 off2 cap2') := hsl2
      clear hsl2 hb6 HLL HCH HO
      go_wp2_with fail
      refine (chooseOrder_any W (by omega) u2 _ ao2 b2 off2 cap2' HSL.out B n (facL E j) (facL E (j + 1)) (by omega) (fun hne => by
        obtain ⟨x, hx⟩ := get_of_lt (l := W) (k := 0) (by cases W with | nil => exact absurd rfl hne | cons a l => simp)
        exact World.block_lt_of_cell? _ _ (HSL.out.hc 0 x hx)) HCH6.out HST.out (facL_pos E (j + 1)) hle (by omega)).mono ?_
      rw [← HOJ.out]
      rintro e w7 ⟨u3, rfl, hu3, hC7, ho7⟩
      obtain ⟨ao3, cap3, hf3⟩ := hu3.1.at'.form
      have HLL7 : Hid (LL w7 w5.heap.size (.slice aoV j capV) ((List.range j).map (ordJ E n)) vs) := HLL6.out.only ho7 (by omega)
      have HCH7 : Hid (Chs w7 B n (facL E (j + 1))) := hC7
      have HO7 : Hid (Only B w5 w7) := HO6.out.trans ho7
      have hs7 := ho7.size
      subst hf3
      have HU3 : Hid (IntCap w7 (.slice ao3 (ordJ E n j).length cap3) (ordJ E n j) ∧ ∀ b, (Value.slice ao3 (ordJ E n j).length cap3).ownBlock = some b → w5.heap.size ≤ b ∧ b < w7.heap.size ∧ (Value.slice aoV j capV).ownBlock ≠ some b) :=
        ⟨hu3.1.cap, fun b hb => ⟨by have := (hu3.2 b hb).1; omega, (hu3.2 b hb).2, fun e => by have := (HLL6.out.own.lt b e).2; have := (hu3.2 b hb).1; omega⟩⟩
      have HOW : Hid (w7.ownsRow w5.heap.size 26 1 (.slice aoV j capV) j vs) := by have := HLL7.out.own; unfold Hid; simpa using this
      clear hu3 hC7 ho7 HLL6 HCH6 HO6 HSL
      go_wp2_with (at_builtin; refine append_new _ rfl (.tmp 41) (.tmp 43) 27 rfl w5.heap.size 26 i0 (.slice none 0 0) 1 24 Tryz.underlying27 HI.out.1 HI.out.2.1 HI.out.2.2.1 HI.out.2.2.2 rfl (by decide) (.slice aoV j capV) j vs rfl (HOW.out.alloc _) (some ⟨w7.heap.size, 0, none⟩) 1 1 [.slice ao3 (ordJ E n j).length cap3] rfl (fun h => by cases h) rfl (fun ad had => by cases had; exact new_one rfl) (by simp [Value.oneCell']) (by unfold maxLen; omega) (by omega) (by simp; omega) ?_)
      intro V8 w8 hown8 hgrow8 hap8
      obtain ⟨ao8, cap8, hf8, _⟩ := own_form hown8
      have hap9 : ∀ g, V8.ownBlock = some g → (Value.slice aoV j capV).ownBlock = some g ∨ w7.heap.size + 1 ≤ g := by simpa using hap8
      have HLL8 : Hid (LL w8 w5.heap.size V8 ((List.range (j + 1)).map (ordJ E n)) (vs ++ [.slice ao3 (ordJ E n j).length cap3])) := by
        unfold Hid
        rw [List.range_succ, List.map_append]
        exact HLL7.out.snoc HU3.out.1 HU3.out.2 (by simpa using hown8) hgrow8 hap9
      have HO8 : Hid (Only B w5 w8) := Only.grown (n := w5.heap.size) hgrow8 (fun kk e => (HOW.out.lt kk e).1) (HO7.out.trans (Only.of_below (below_alloc _ _))) (Nat.le_refl _)
      have HC8 : Hid (Chs w8 B n (facL E (j + 1))) := (HCH7.out.below (below_alloc _ _)).keep (hgrow8.block B (by have := HCH7.out.lt; simp; omega) (fun e => by have := (HOW.out.lt B e.symm).1; omega))
      subst hf8
      clear hown8 hgrow8 hap8 hap9 HLL7 HU3 HOW HO7 HCH7
      go_wp2_with fail
      go_roundw
      case measure => simp [intOf]; omega
      case rel => exact ⟨j + 1, ao8, cap8, _, by omega, by go_num, rfl, HLL8.out, HC8.out, HO8.out⟩
    · have h3 : j = 3 := by omega
      subst h3
      replace d0 := HO.out.cell d0 (by omega)
      replace d1 := HO.out.cell d1 (by omega)
      have hfz : ∀ o, wr.frozen? ⟨w.heap.size, o, none⟩ = w5.frozen? ⟨w.heap.size, o, none⟩ := fun o => World.frozen?_of_block (w := w5) (HO.out.block w.heap.size (by have := hb5.size; omega) (by omega))
      replace f0 := (hfz 0).trans f0
      replace f1 := (hfz 1).trans f1
      have hv := HF.out.hv
      subst hv
      have hbr : Below w.heap.size w wr := hb5.trans (HO.out.below (by omega) hb5.size)
      have HFR : Hid (SlAt wr 1 IntC (.slice aof (chF n (rdo E E) S).length capf) (chF n (rdo E E) S) aof bf off capf) := IntAt.only HF.out HO.out (by omega)
      clear hfz HF HO HCH
      go_wp2_with fail
      have hset : Only w.heap.size wr ((wr.setCell ⟨w.heap.size, 0, none⟩ (.slice aof (chF n (rdo E E) S).length capf)).setCell ⟨w.heap.size, 1, none⟩ (.slice aoV 3 capV)) := (Only.setCellN _ _ _ _).trans (Only.setCellN _ _ _ _)
      refine bodyPost_ret (v := .tuple #[.agg #[.slice aof (chF n (rdo E E) S).length capf, .slice aoV 3 capV], .int .i64 0]) (by simp [results, Tryz.results119, go_sem, *]) rfl
        ⟨_, _, rfl, ⟨?_, ?_⟩, (hbr.setCell (Nat.le_refl _) _).setCell (Nat.le_refl _) _⟩
      · rw [HX.out]
        exact ⟨aof, bf, off, capf, IntAt.only HFR.out hset (by omega), by omega⟩
      · rw [exN_order]
        exact (HLL.out.only hset (by have := hb5.size; omega)).read.less hb5.size

theorem nth_yes (E : List Evt) (hE : E.length ≤ 96) (v : Value) (n : Nat) (w : World) (h : Ev4At w v E) (hn : n < sizeN E) (hs : sizeN E ≤ 2000) :
    Calls Tryz.prog 119 #[v, .int .i64 n] w fun e w' => ∃ vf vo, e = .returned (.tuple #[.agg #[vf, vo], .int .i64 0]) ∧ ExeAt w' vf vo (exN E n) ∧ Below w.heap.size w w' :=
  (nth_new E hE v n w h hn hs).mono fun _ _ ⟨vf, vo, he, hx, hb⟩ => ⟨vf, vo, he, hx.at', hb⟩

end Go.Proofs.YtomijmikkbhgmaaGreat

namespace Go.Proofs.YtomijmikkbhgmaaGreat
open Go.RowKit

def cErr (T : List (List Ins)) (c : List Atm) (n : Int) : Int := if (chk T c).1 == 0 then (if 0 ≤ n ∧ n < (sizeN (evsT T 0) : Int) then 0 else 6) else (chk T c).1
def cExe (T : List (List Ins)) (c : List Atm) (n : Int) : Exe := if (chk T c).1 == 0 then (if 0 ≤ n ∧ n < (sizeN (evsT T 0) : Int) then exN (evsT T 0) n.toNat else ⟨[], []⟩) else ⟨[], []⟩

theorem chk_many_no {T : List (List Ins)} {c : List Atm} (h : ((chk T c).1 == 0) = true) : sizeN (evsT T 0) ≤ 2000 := by
  have hs := chk_zero h
  cases hi : insF T 0 with
  | some p => rw [chk_ins hs hi] at h; simp at h
  | none =>
    cases hn : nstF T 0 with
    | some p => rw [chk_nst hs hi hn] at h; simp at h
    | none =>
      cases ha : atmF c 0 T.length with
      | some p => rw [chk_atm hs hi hn ha] at h; simp at h
      | none =>
        cases hm : manyB T
        · unfold manyB at hm
          simp only [Bool.or_eq_false_iff, decide_eq_false_iff_not] at hm
          have := hm.2
          unfold cap2 at this
          split at this <;> omega
        · rw [chk_many hs hi hn ha hm] at h; simp at h

theorem exe_nil (w : World) : ExeAt w (.slice none 0 0) (.slice none 0 0) ⟨[], []⟩ :=
  ⟨(intAt_nil w 0).at', none, 0, 0, 0, rfl, fun h => absurd rfl h, fun _ => ⟨rfl, rfl⟩, fun k x h => by simp at h⟩

/-- Two cells that hold no numbers, and no third one: an execution doesn't lie there. -/
theorem exe_store {w w' : World} {vf vo : Value} {x : Exe} {R : Nat} (h : ExeAt w vf vo x) (h3 : x.order.length = 3) (hR : ∀ o z, w.cell? ⟨R, o, none⟩ = some z → z = .slice none 0 0 ∧ o < 2) (hk : ∀ b : Nat, b ≠ R → w'.heap[b]? = w.heap[b]?) : ExeAt w' vf vo x := by
  have hI : ∀ (u : Value) (l : List Int), IntAt w u l → IntAt w' u l := by
    intro u l hu
    obtain ⟨ao, b, off, cap, hv, ha, hn, hc⟩ := hu
    refine ⟨ao, b, off, cap, hv, ha, hn, fun k y hy => ?_⟩
    have hc1 := hc k y hy
    unfold IntC at hc1
    have hb : b ≠ R := fun e => by subst e; have := (hR _ _ hc1).1; cases this
    exact cell_heap (hk b hb) hc1
  refine ⟨hI _ _ h.f, ?_⟩
  obtain ⟨ao, b, off, cap, hv, ha, hn, hc⟩ := h.o
  refine ⟨ao, b, off, cap, hv, ha, hn, fun k y hy => ?_⟩
  have hb : b ≠ R := by
    obtain ⟨z, hz⟩ := get_of_lt (l := x.order) (k := 2) (by omega)
    obtain ⟨u, h1, _⟩ := hc 2 z hz
    intro e
    subst e
    have := (hR _ _ h1).2
    omega
  obtain ⟨u, h1, h2⟩ := hc k y hy
  exact ⟨u, cell_heap (hk b hb) h1, hI _ _ h2⟩

theorem nil_cells {w w3 : World} {x : Obj} {t : TypeId} (hb : Below (w.heap.size + 2) ((w.alloc x).alloc (.cells #[.slice none 0 0, .slice none 0 0] t)) w3) : ∀ o z, w3.cell? ⟨w.heap.size + 1, o, none⟩ = some z → z = .slice none 0 0 ∧ o < 2 := by
  intro o z hz
  rw [hb.cell (p := ⟨w.heap.size + 1, o, none⟩) (by simp)] at hz
  have e : w.heap.size + 1 = (w.alloc x).heap.size := by simp
  rw [e, cell_of_row _ _ o _ t (0, 0) (heap_alloc_new _ _)] at hz
  match o, hz with
  | 0, hz => simp at hz; exact ⟨hz.symm, by omega⟩
  | 1, hz => simp at hz; exact ⟨hz.symm, by omega⟩
  | o + 2, hz => simp at hz

set_option maxHeartbeats 2000000 in
theorem candP_any (T : List (List Ins)) (fa : Bool) (c : List Atm) (v vt vc : Value) (n : Int) (w : World) (h : TestAt w v T fa c vt vc) :
    Calls Tryz.prog 67 #[v, .int .i64 n] w fun e w' => ∃ vf vo, e = .returned (.tuple #[.agg #[vf, vo], .int .i64 (cErr T c n)]) ∧ ExeAt w' vf vo (cExe T c n) ∧ Below w.heap.size w w' := by
  have HT : Hid (TestAt w v T fa c vt vc) := h
  obtain ⟨hv, _, _⟩ := h
  subst hv
  have HZ : Hid (((chk T c).1 == 0) = true → sizeB T c = true ∧ sizeN (evsT T 0) ≤ 2000) := fun h => ⟨chk_zero h, chk_many_no h⟩
  have HE : Hid (cErr T c n = if (chk T c).1 == 0 then (if 0 ≤ n ∧ n < (sizeN (evsT T 0) : Int) then 0 else 6) else (chk T c).1) := rfl
  have HX : Hid (cExe T c n = if (chk T c).1 == 0 then (if 0 ≤ n ∧ n < (sizeN (evsT T 0) : Int) then exN (evsT T 0) n.toNat else ⟨[], []⟩) else ⟨[], []⟩) := rfl
  generalize hq : chk T c = q at HZ HE HX
  have HQ : Hid (chk T c = q) := hq
  clear hq
  generalize cErr T c n = er at HE
  generalize cExe T c n = ex at HX
  go_enter Tryz.func67, Tryz.ntmps67
  go_wp2_with fail
  refine (find_any T fa c _ vt vc _ (HT.out.keep (below_two _ _ _))).mono ?_
  rw [HQ.out]
  rintro e w3 ⟨rfl, hb3⟩
  unfold fault2
  simp only [World.size_alloc] at hb3
  obtain ⟨g0, g1, g2, d0, d1, f0, f1, s2, s3⟩ := own5 hb3
  have hbw3 : Below w.heap.size w w3 := (below_two _ _ _).trans (hb3.mono (by omega))
  have HNC : Hid (∀ o z, w3.cell? ⟨w.heap.size + 1, o, none⟩ = some z → z = .slice none 0 0 ∧ o < 2) := nil_cells hb3
  clear hb3 g1 g2
  cases hz : q.1 == 0
  · have hz2 : (q.1 != 0) = true := by simp [bne, hz]
    have HE2 : Hid (er = q.1) := HE.out.trans (by rw [hz]; rfl)
    have HX2 : Hid (ex = ⟨[], []⟩) := HX.out.trans (by rw [hz]; rfl)
    clear HE HX
    go_wp2_with fail
    go_region
    all_goals
      go_wp2_with fail
      refine bodyPost_ret (v := .tuple #[.agg #[.slice none 0 0, .slice none 0 0], .int .i64 q.1]) (by simp [results, Tryz.results67, go_sem, *]) rfl ⟨_, _, by rw [HE2.out], by rw [HX2.out]; exact exe_nil _, ?_⟩
      exact Below.drew ((((hbw3.setCell (by simp) _).setCell (by simp) _).alloc (by simp [World.setCell]; omega) _))
  · have hz2 : (q.1 != 0) = false := by simp [bne, hz]
    have hq0 : q.1 = 0 := by simpa using hz
    obtain ⟨hsb, hN⟩ := HZ.out hz
    obtain ⟨h2, hL, _⟩ := sizeB_parts hsb
    have HL : Hid (lensB T = true) := hL
    have hEl : (evsT T 0).length ≤ 96 := by have := evsT_len T 0 HL.out; omega
    have HE2 : Hid (er = if 0 ≤ n ∧ n < (sizeN (evsT T 0) : Int) then 0 else 6) := HE.out.trans (by rw [hz]; rfl)
    have HX2 : Hid (ex = if 0 ≤ n ∧ n < (sizeN (evsT T 0) : Int) then exN (evsT T 0) n.toNat else ⟨[], []⟩) := HX.out.trans (by rw [hz]; rfl)
    clear HE HX hL hq0 hsb
    go_wp2_with fail
    refine (list_any T vt _ (HT.out.ht.keep (hbw3.alloc hbw3.size _)) h2 HL.out).mono ?_
    generalize evsT T 0 = E at hEl hN HE2 HX2
    rintro e w5 ⟨u, rfl, hu, hb5⟩
    have k5 := below_more (below_alloc w3 _) hb5
    have hbw5 := below_more hbw3 k5
    have HNC5 : Hid (∀ o z, w5.cell? ⟨w.heap.size + 1, o, none⟩ = some z → z = .slice none 0 0 ∧ o < 2) := fun o z hz => HNC.out o z (by rw [← k5.cell (p := ⟨w.heap.size + 1, o, none⟩) s3]; exact hz)
    replace d0 := keep_cell k5 d0
    replace d1 := keep_cell k5 d1
    replace f0 := (k5.frozen (p := ⟨w.heap.size + 1, 0, none⟩) s3).trans f0
    replace f1 := (k5.frozen (p := ⟨w.heap.size + 1, 1, none⟩) s3).trans f1
    have s5 : w.heap.size + 1 < w5.heap.size := by have := k5.size; omega
    clear hb5 k5 HNC g0 s3
    by_cases hn : 0 ≤ n ∧ n < (sizeN E : Int)
    · obtain ⟨n', hn'⟩ := Int.eq_ofNat_of_zero_le hn.1
      subst hn'
      have HE3 : Hid (er = 0) := HE2.out.trans (if_pos hn)
      have HX3 : Hid (ex = exN E n') := HX2.out.trans (by rw [if_pos hn]; simp)
      have hlt : n' < sizeN E := by omega
      clear HE2 HX2 hn
      go_wp2_with fail
      refine (nth_yes E hEl u n' _ hu hlt hN).mono ?_
      rintro e w6 ⟨vf, vo, rfl, hx, hb6⟩
      have HNC6 : Hid (∀ o z, w6.cell? ⟨w.heap.size + 1, o, none⟩ = some z → z = .slice none 0 0 ∧ o < 2) := fun o z hz => HNC5.out o z (by rw [← hb6.cell (p := ⟨w.heap.size + 1, o, none⟩) s5]; exact hz)
      have hbw6 := below_more hbw5 hb6
      replace d0 := keep_cell hb6 d0
      replace d1 := keep_cell hb6 d1
      replace f0 := (hb6.frozen (p := ⟨w.heap.size + 1, 0, none⟩) s5).trans f0
      replace f1 := (hb6.frozen (p := ⟨w.heap.size + 1, 1, none⟩) s5).trans f1
      obtain ⟨aof, cf, hff⟩ := hx.f.form
      obtain ⟨aoo, bo, oo, co, hso⟩ := hx.o
      have hfo := hso.hv
      subst hff hfo
      have HXX : Hid (ExeAt w6 (.slice aof (exN E n').from'.length cf) (.slice aoo (exN E n').order.length co) (exN E n')) := hx
      generalize hl1 : (exN E n').from'.length = l1 at HXX
      generalize hl2 : (exN E n').order.length = l2 at HXX
      have HL2 : Hid (l2 = 3) := hl2.symm
      clear hx hso hb6 HNC5 hl1 hl2
      go_wp2_with fail
      refine bodyPost_ret (v := .tuple #[.agg #[.slice aof l1 cf, .slice aoo l2 co], .int .i64 0]) (by simp [results, Tryz.results67, go_sem, *]) rfl ⟨_, _, by rw [HE3.out], ?_, ?_⟩
      · rw [HX3.out]
        exact exe_store HXX.out rfl HNC6.out (fun b hb => by rw [Below.heap_setCell _ _ _ _ hb, Below.heap_setCell _ _ _ _ hb])
      · exact (hbw6.setCell (by simp) _).setCell (by simp) _
    · have HE3 : Hid (er = 6) := HE2.out.trans (if_neg hn)
      have HX3 : Hid (ex = ⟨[], []⟩) := HX2.out.trans (if_neg hn)
      clear HE2 HX2
      go_wp2_with fail
      refine (nth_no E hEl u n _ hu (by omega) hN).mono ?_
      rintro e w6 ⟨rfl, hb6⟩
      unfold noExe
      have hbw6 := below_more hbw5 hb6
      replace d0 := keep_cell hb6 d0
      replace d1 := keep_cell hb6 d1
      replace f0 := (hb6.frozen (p := ⟨w.heap.size + 1, 0, none⟩) s5).trans f0
      replace f1 := (hb6.frozen (p := ⟨w.heap.size + 1, 1, none⟩) s5).trans f1
      clear hb6
      go_wp2_with fail
      refine bodyPost_ret (v := .tuple #[.agg #[.slice none 0 0, .slice none 0 0], .int .i64 6]) (by simp [results, Tryz.results67, go_sem, *]) rfl ⟨_, _, by rw [HE3.out], by rw [HX3.out]; exact exe_nil _, ?_⟩
      exact (hbw6.setCell (by simp) _).setCell (by simp) _

end Go.Proofs.YtomijmikkbhgmaaGreat
