import Derived.Test.YtomijmikkbhgmabT8
import Derived.Deep.CutRange
import Derived.Deep.RegionWith
namespace Go.Proofs.Ytomijmikkbhgmab
open Go.RowKit

def e4V (y : Evt) : Value := .agg #[.int .i64 y.thread, .int .i64 y.place, .int .i64 y.kind, .int .i64 y.loc]

/-- An event in a block of its own. -/
structure Box4 (w : World) (b : Nat) (x : Evt) : Prop where
  c0 : w.cell? ⟨b, 0, none⟩ = some (.int .i64 x.thread)
  c1 : w.cell? ⟨b, 1, none⟩ = some (.int .i64 x.place)
  c2 : w.cell? ⟨b, 2, none⟩ = some (.int .i64 x.kind)
  c3 : w.cell? ⟨b, 3, none⟩ = some (.int .i64 x.loc)
theorem Box4.keep {w w' : World} {b : Nat} {x : Evt} (h : Box4 w b x) (hb : Below w.heap.size w w') : Box4 w' b x := ⟨keep_cell hb h.c0, keep_cell hb h.c1, keep_cell hb h.c2, keep_cell hb h.c3⟩
theorem Box4.lt {w : World} {b : Nat} {x : Evt} (h : Box4 w b x) : b < w.heap.size := World.block_lt_of_cell? w _ h.c0
theorem box4_new (w : World) (x : Evt) (t : TypeId) : Box4 (w.alloc (.cells #[.int .i64 x.thread, .int .i64 x.place, .int .i64 x.kind, .int .i64 x.loc] t)) w.heap.size x := ⟨by simp, by simp, by simp, by simp⟩
theorem box4_two (w : World) (x y : Evt) (t : TypeId) : Box4 ((w.alloc (.cells #[.int .i64 x.thread, .int .i64 x.place, .int .i64 x.kind, .int .i64 x.loc] t)).alloc (.cells #[.int .i64 y.thread, .int .i64 y.place, .int .i64 y.kind, .int .i64 y.loc] t)) w.heap.size x ∧
    Box4 ((w.alloc (.cells #[.int .i64 x.thread, .int .i64 x.place, .int .i64 x.kind, .int .i64 x.loc] t)).alloc (.cells #[.int .i64 y.thread, .int .i64 y.place, .int .i64 y.kind, .int .i64 y.loc] t)) (w.heap.size + 1) y := by
  refine ⟨(box4_new w x t).keep (below_alloc _ _), ?_⟩
  have := box4_new (w.alloc (.cells #[.int .i64 x.thread, .int .i64 x.place, .int .i64 x.kind, .int .i64 x.loc] t)) y t
  rw [World.size_alloc] at this
  exact this

theorem isAccess_any (y : Evt) (w : World) :
    Calls Try.prog 119 #[e4V y] w fun e w' => e = .returned (.bool (memB y.kind)) ∧ Below w.heap.size w w' := by
  unfold memB e4V
  go_enter Try.func119, Try.ntmps119
  go_wp2
  all_goals go_ret
  all_goals exact ⟨ret_bool (by first | (simp [*]; done) | (simp_all; done) | (simp_all; omega)), below_alloc _ _⟩

theorem isOfSync_any (y : Evt) (w : World) :
    Calls Try.prog 124 #[e4V y] w fun e w' => e = .returned (.bool (y.kind == 4 || y.kind == 5)) ∧ Below w.heap.size w w' := by
  unfold e4V
  go_enter Try.func124, Try.ntmps124
  go_wp2
  all_goals go_ret
  all_goals exact ⟨ret_bool (by first | (simp [*]; done) | (simp_all; done) | (simp_all; omega)), below_alloc _ _⟩

def swapB (a b : Evt) : Bool := a.thread == b.thread && a.place == b.place && a.kind == 0 && b.kind == 1
set_option maxHeartbeats 1000000 in
theorem isSwap_any (a b : Evt) (w : World) :
    Calls Try.prog 111 #[e4V a, e4V b] w fun e w' => e = .returned (.bool (swapB a b)) ∧ Below w.heap.size w w' := by
  unfold e4V swapB
  go_enter Try.func111, Try.ntmps111
  go_wp2
  all_goals go_ret
  all_goals exact ⟨ret_bool (by first | (simp [*]; done) | (simp_all; done) | (simp_all; omega)), below_two _ _ _⟩

def hldB (m a b : Int) : Bool := m == 0 || (m == 1 && (a == 0 && b == 0)) || (m == 2 && (a == 1 && b == 1))
set_option maxHeartbeats 1000000 in
theorem holds_any (m a b : Int) (w : World) :
    Calls Try.prog 123 #[.int .i64 m, .int .i64 a, .int .i64 b] w fun e w' => e = .returned (.bool (hldB m a b)) ∧ w' = w := by
  unfold hldB
  go_enter Try.func123, Try.ntmps123
  go_wp2
  all_goals go_ret
  all_goals exact ⟨ret_bool (by first | (simp [*]; done) | (simp_all; done) | (simp_all; omega)), rfl⟩

/-- Are they Reads or Writes of one location? -/
def sameB (a b : Evt) : Bool := memB a.kind && memB b.kind && a.loc == b.loc
set_option maxHeartbeats 1000000 in
theorem isSameLoc_any (a b : Evt) (w : World) :
    Calls Try.prog 109 #[e4V a, e4V b] w fun e w' => e = .returned (.bool (sameB a b)) ∧ Below w.heap.size w w' := by
  have HB : Hid (sameB a b = (memB a.kind && memB b.kind && a.loc == b.loc)) := rfl
  generalize sameB a b = B at HB ⊢
  unfold e4V
  go_enter Try.func109, Try.ntmps109
  go_wp2_with fail
  have HX := box4_two w a b 92
  have hbw := below_two w (.cells #[.int .i64 a.thread, .int .i64 a.place, .int .i64 a.kind, .int .i64 a.loc] 92) (.cells #[.int .i64 b.thread, .int .i64 b.place, .int .i64 b.kind, .int .i64 b.loc] 92)
  generalize hW : (w.alloc (.cells #[.int .i64 a.thread, .int .i64 a.place, .int .i64 a.kind, .int .i64 a.loc] 92)).alloc (.cells #[.int .i64 b.thread, .int .i64 b.place, .int .i64 b.kind, .int .i64 b.loc] 92) = W at HX hbw ⊢
  clear hW
  refine (isAccess_any a _).mono ?_
  rintro e w3 ⟨rfl, hb3⟩
  obtain ⟨a0, a1, a2, a3⟩ := HX.1.keep hb3
  obtain ⟨b0, b1, b2, b3⟩ := HX.2.keep hb3
  have hbw3 := below_more hbw hb3
  cases hm : memB a.kind
  · have HM : Hid (B = false) := HB.out.trans (by rw [hm]; rfl)
    go_wp2_with fail
    go_ret
    exact ⟨by rw [HM.out]; rfl, hbw3⟩
  · have HB2 : Hid (B = (memB b.kind && a.loc == b.loc)) := HB.out.trans (by rw [hm]; rfl)
    go_wp2_with fail
    refine (isAccess_any b _).mono ?_
    rintro e w4 ⟨rfl, hb4⟩
    have hbw4 := below_more hbw3 hb4
    clear a0 a1 a2 a3 b0 b1 b2 b3
    have a3 := ((HX.1.keep hb3).keep hb4).c3
    have b3 := ((HX.2.keep hb3).keep hb4).c3
    cases hm2 : memB b.kind
    · have HM : Hid (B = false) := HB2.out.trans (by rw [hm2]; rfl)
      go_wp2_with fail
      go_ret
      exact ⟨by rw [HM.out]; rfl, hbw4⟩
    · have HM : Hid (B = (a.loc == b.loc)) := HB2.out.trans (by rw [hm2]; rfl)
      go_wp2_with fail
      go_ret
      exact ⟨by rw [HM.out]; rfl, hbw4⟩

/-- Is one of them a mark that keeps the other one on its side? -/
def mrkB (a b : Evt) : Bool := a.kind == 2 || b.kind == 3 || (a.kind == 4 || a.kind == 5) || (b.kind == 4 || b.kind == 5)
set_option maxHeartbeats 1000000 in
theorem isMarked_any (a b : Evt) (w : World) :
    Calls Try.prog 122 #[e4V a, e4V b] w fun e w' => e = .returned (.bool (mrkB a b)) ∧ Below w.heap.size w w' := by
  have HB : Hid (mrkB a b = (a.kind == 2 || b.kind == 3 || (a.kind == 4 || a.kind == 5) || (b.kind == 4 || b.kind == 5))) := rfl
  generalize mrkB a b = B at HB ⊢
  generalize hsa : (a.kind == 4 || a.kind == 5) = SA at HB
  generalize hsb : (b.kind == 4 || b.kind == 5) = SB at HB
  have HSA : Hid ((a.kind == 4 || a.kind == 5) = SA ∧ (b.kind == 4 || b.kind == 5) = SB) := ⟨hsa, hsb⟩
  clear hsa hsb
  unfold e4V
  have HX := box4_two w a b 92
  have hbw := below_two w (.cells #[.int .i64 a.thread, .int .i64 a.place, .int .i64 a.kind, .int .i64 a.loc] 92) (.cells #[.int .i64 b.thread, .int .i64 b.place, .int .i64 b.kind, .int .i64 b.loc] 92)
  cases k2 : a.kind == 2
  · cases k3 : b.kind == 3
    · have HB2 : Hid (B = (SA || SB)) := HB.out.trans (by rw [k2, k3]; rfl)
      go_enter Try.func122, Try.ntmps122
      go_wp2_with fail
      generalize hW : (w.alloc (.cells #[.int .i64 a.thread, .int .i64 a.place, .int .i64 a.kind, .int .i64 a.loc] 92)).alloc (.cells #[.int .i64 b.thread, .int .i64 b.place, .int .i64 b.kind, .int .i64 b.loc] 92) = W at HX hbw ⊢
      clear hW
      refine (isOfSync_any a _).mono ?_
      rw [HSA.out.1]
      rintro e w3 ⟨rfl, hb3⟩
      have hbw3 := below_more hbw hb3
      cases SA
      · obtain ⟨b0, b1, b2, b3⟩ := HX.2.keep hb3
        go_wp2_with fail
        refine (isOfSync_any b _).mono ?_
        rw [HSA.out.2]
        rintro e w4 ⟨rfl, hb4⟩
        have hbw4 := below_more hbw3 hb4
        go_wp2_with fail
        go_ret
        exact ⟨by rw [HB2.out, Bool.false_or]; rfl, hbw4⟩
      · go_wp2_with fail
        go_ret
        exact ⟨by rw [HB2.out]; rfl, hbw3⟩
    · have HM : Hid (B = true) := HB.out.trans (by rw [k3]; simp)
      go_enter Try.func122, Try.ntmps122
      go_wp2_with fail
      go_ret
      exact ⟨by rw [HM.out]; rfl, hbw⟩
  · have HM : Hid (B = true) := HB.out.trans (by rw [k2]; simp)
    go_enter Try.func122, Try.ntmps122
    go_wp2_with fail
    go_ret
    exact ⟨by rw [HM.out]; rfl, hbw⟩

/-- Each event is of an instruction of the test. -/
structure EvIn (T : List (List Ins)) (y : Evt) (i p : Nat) (l : List Ins) : Prop where
  th : y.thread = (i : Int)
  pl : y.place = (p : Int)
  l0 : T[i]? = some l
  l1 : l[p]? = some y.ins

theorem InsAt.form {w : World} {v : Value} {l : List Ins} (h : InsAt w v l) : ∃ ao cap, v = .slice ao l.length cap := by
  obtain ⟨_, ao, b, off, cap, h⟩ := h
  exact ⟨ao, cap, h.hv⟩

set_option maxHeartbeats 1000000 in
theorem instrOf_any (T : List (List Ins)) (_hT : T.length ≤ 4) (vt : Value) (i p : Nat) (l : List Ins) (z : Ins) (_hl12 : l.length ≤ 12) (hl : T[i]? = some l) (hz : l[p]? = some z) (kd lc : Int) (w : World) (h : ThrAt w vt T) :
    Calls Try.prog 118 #[vt, .agg #[.int .i64 i, .int .i64 p, .int .i64 kd, .int .i64 lc]] w fun e w' => e = .returned (.agg #[.int .i64 z.op, .int .i64 z.loc, .int .i64 z.reg, .int .i64 z.val, .int .i64 z.mode]) ∧ Below w.heap.size w w' := by
  obtain ⟨_, ao, b, off, cap, hv, ha, _, hc⟩ := h
  subst hv
  have hiT : i < T.length := (List.getElem?_eq_some_iff.1 hl).1
  have hpl : p < l.length := (List.getElem?_eq_some_iff.1 hz).1
  obtain ⟨u, c0, _, ao2, b2, off2, cap2, hv2, ha2, _, hc2⟩ := hc i l hl
  subst hv2
  rw [Nat.mul_one] at c0
  obtain rfl := ha (ne_nil hiT)
  obtain rfl := ha2 (ne_nil hpl)
  obtain ⟨d0, d1, d2, d3, d4⟩ := hc2 p z hz
  have m0 := World.block_lt_of_cell? _ _ c0
  have m1 := World.block_lt_of_cell? _ _ d0
  have hiI : (i : Int) < (T.length : Int) := by omega
  have hpI : (p : Int) < (l.length : Int) := by omega
  simp only at m0 m1
  clear hc hc2 ha ha2 hl hz
  go_enter Try.func118, Try.ntmps118
  go_wp2_with fail
  exact bodyPost_ret (v := .agg #[.int .i64 z.op, .int .i64 z.loc, .int .i64 z.reg, .int .i64 z.val, .int .i64 z.mode]) (by simp [results, Try.results118, go_sem, *]) rfl ⟨rfl, below_two _ _ _⟩

end Go.Proofs.Ytomijmikkbhgmab

namespace Go.Proofs.Ytomijmikkbhgmab
open Go.RowKit

/-- Event by event, from which Write it reads. -/
def srcL : List Evt → List Int → List Int
  | [], _ => []
  | y :: E, F => if y.kind == 0 then (match F with
    | [] => -1 :: srcL E []
    | f :: F => f :: srcL E F) else -1 :: srcL E F

theorem srcL_len (E : List Evt) (F : List Int) : (srcL E F).length = E.length := by
  induction E generalizing F with
  | nil => rfl
  | cons y E ih =>
    unfold srcL
    split
    · split <;> simp [ih]
    · simp [ih]
theorem srcL_not {y : Evt} (h : (y.kind == 0) = false) (E : List Evt) (F : List Int) : srcL (y :: E) F = -1 :: srcL E F := by simp [srcL, h]
theorem srcL_out {y : Evt} (h : (y.kind == 0) = true) (E : List Evt) : srcL (y :: E) [] = -1 :: srcL E [] := by simp [srcL, h]
theorem srcL_read {y : Evt} (h : (y.kind == 0) = true) (E : List Evt) (f : Int) (F : List Int) : srcL (y :: E) (f :: F) = f :: srcL E F := by simp [srcL, h]

theorem getD_drop {S : List Int} {k : Nat} {a : Int} {l : List Int} (h : S.drop k = a :: l) : S.getD k 0 = a ∧ S.drop (k + 1) = l := by
  have h1 : (S.drop k)[0]? = some a := by rw [h]; rfl
  rw [List.getElem?_drop, Nat.add_zero] at h1
  refine ⟨by rw [List.getD, h1]; rfl, ?_⟩
  have : S.drop (k + 1) = (S.drop k).drop 1 := by rw [List.drop_drop, Nat.add_comm]
  rw [this, h]; rfl

/-- The first k entries of a list, and noughts. -/
def upG (S : List Int) (k j : Nat) : Int := if j < k then S.getD j 0 else 0
theorem upG_step {S : List Int} {k : Nat} {a : Int} (h : S.getD k 0 = a) (j : Nat) : (if j = k then a else upG S k j) = upG S (k + 1) j := by
  unfold upG
  by_cases e : j = k
  · subst e; rw [if_pos rfl, if_pos (by omega), h]
  · rw [if_neg e]
    by_cases e2 : j < k
    · rw [if_pos e2, if_pos (by omega)]
    · rw [if_neg e2, if_neg (by omega)]

/-- A row read as a list. -/
theorem Row.list {w wr : World} {bT n : Nat} {g : Nat → Int} (h : Row w wr bT n g) : IntAt wr (.slice (some ⟨bT, 0, none⟩) n n) ((List.range n).map g) := by
  refine ⟨_, bT, 0, n, by simp, fun _ => rfl, fun h => by simp at h, fun k x hx => ?_⟩
  have hk : k < n := by have := (List.getElem?_eq_some_iff.1 hx).1; simpa using this
  have hg : g k = x := by simpa [hk] using hx
  have := h.row.cell hk
  unfold IntC
  rw [Nat.mul_one, Nat.zero_add, ← hg]; exact this

set_option maxRecDepth 20000 in
set_option maxHeartbeats 1000000 in
theorem sourcesJ_any (E : List Evt) (hE : E.length ≤ 96) (F : List Int) (hF : F.length ≤ 96) (v vf : Value) (w : World) (h : Ev4At w v E) (hf : IntAt w vf F) :
    Calls Try.prog 95 #[v, vf] w fun e w' => e = .returned (.slice (some ⟨w.heap.size, 0, none⟩) E.length E.length) ∧ Row w w' w.heap.size E.length (fun j => (srcL E F).getD j 0) := by
  obtain ⟨ao, b, off, cap, hv, ha, _, hc⟩ := h
  obtain ⟨aof, bf, offf, capf, hvf, haf, _, hcf⟩ := hf
  subst hv hvf
  have HC : Hid (∀ k y, E[k]? = some y → Ev4C w b (off + k * 4) y) := hc
  have HF : Hid (∀ k a, F[k]? = some a → IntC w bf (offf + k * 1) a) := hcf
  have hmk := run_make_row' (P := Try.prog) 39 3 (.int .i64 0) 8 Try.underlying39 Try.info3 rfl .i64 .i64 E.length (by omega) (by omega)
  have HS : Hid (srcL (E.drop 0) (F.drop 0) = (srcL E F).drop 0) := rfl
  generalize srcL E F = S at HS ⊢
  have HG0 : Hid (Row w (w.alloc (.cells (madeCells #[.int .i64 0] E.length) 3)) w.heap.size E.length (upG S 0)) := ⟨below_alloc _ _, World.rowIs_made w (.int .i64 0) E.length 3, Nat.le_refl _⟩
  clear hc hcf
  go_enter Try.func95, Try.ntmps95
  go_wp2_with fail
  clear hmk
  go_loopw [6, 14] (fun u i wr => ∃ (k c : Nat), k ≤ E.length ∧ c ≤ k ∧ i = .int .i64 k ∧ u = .int .i64 c ∧ Hid (srcL (E.drop k) (F.drop c) = S.drop k) ∧ Hid (Row w wr w.heap.size E.length (upG S k))) (fun _ i _ => E.length - (intOf i).toNat)
  case atStart => exact ⟨0, 0, Nat.zero_le _, Nat.zero_le _, rfl, rfl, HS.out, HG0.out⟩
  case round =>
    clear HS HG0
    obtain ⟨k, n, hk, hnk, rfl, rfl, hs, hr⟩ := hrel
    have HR := hr
    by_cases hlt : k < E.length
    · obtain ⟨y, hy⟩ := get_of_lt hlt
      obtain rfl := ha (ne_nil hlt)
      obtain ⟨c0, c1, c2, c3⟩ := ev4C_keeps _ _ _ _ _ hr.out.hb (HC.out k y hy)
      have hkI : (k : Int) < (E.length : Int) := by omega
      have m0 := World.block_lt_of_cell? _ _ c0
      simp only at m0
      have t0 := hr.out.row.cell hlt
      have z0 := hr.out.row.frozen k
      have s0 := hr.out.row.lt
      have s1 : w.heap.size < wr.heap.size + 1 := by omega
      have hS0 : S.drop k = srcL (y :: E.drop (k + 1)) (F.drop n) := by rw [← hs.out, drop_cons hy]
      clear hs hr hy
      cases h0 : y.kind == 0
      · have hS1 : S.drop k = -1 :: srcL (E.drop (k + 1)) (F.drop n) := hS0.trans (srcL_not h0 _ _)
        obtain ⟨g1, g2⟩ := getD_drop hS1
        have HS2 : Hid (srcL (E.drop (k + 1)) (F.drop n) = S.drop (k + 1)) := g2.symm
        have HR2 : Hid (Row w (wr.setCell ⟨w.heap.size, k, none⟩ (.int .i64 (-1))) w.heap.size E.length (upG S (k + 1))) := HR.out.set k _ fun j _ => upG_step g1 j
        clear hS0 hS1 g1 g2 HR
        go_wp2_with fail
        go_roundw
        case measure => simp [intOf]; omega
        case rel => exact ⟨k + 1, n, by omega, by omega, by go_num, rfl, HS2.out, HR2.out.alloc _⟩
      · by_cases hnF : n < F.length
        · obtain ⟨f, hf⟩ := get_of_lt hnF
          obtain rfl := haf (ne_nil hnF)
          have q0 := intC_keeps _ _ _ _ _ HR.out.hb (HF.out n f hf)
          unfold IntC at q0
          rw [Nat.mul_one] at q0
          have m1 := World.block_lt_of_cell? _ _ q0
          have m2 := World.block_lt_of_cell? _ _ (HF.out n f hf)
          simp only at m1 m2
          have mne : bf ≠ w.heap.size := by omega
          have hS1 : S.drop k = f :: srcL (E.drop (k + 1)) (F.drop (n + 1)) := hS0.trans (by rw [drop_cons hf, srcL_read h0])
          obtain ⟨g1, g2⟩ := getD_drop hS1
          have hnI : (n : Int) < (F.length : Int) := by omega
          have HS2 : Hid (srcL (E.drop (k + 1)) (F.drop (n + 1)) = S.drop (k + 1)) := g2.symm
          have HR1 : Hid (Row w (wr.setCell ⟨w.heap.size, k, none⟩ (.int .i64 (-1))) w.heap.size E.length (fun j => if j = k then -1 else upG S k j)) := HR.out.set k _ fun j _ => rfl
          have HR2 : Hid (Row w ((wr.setCell ⟨w.heap.size, k, none⟩ (.int .i64 (-1))).setCell ⟨w.heap.size, k, none⟩ (.int .i64 f)) w.heap.size E.length (upG S (k + 1))) := HR1.out.set k _ fun j _ => by
            rw [← upG_step g1 j]
            by_cases e : j = k
            · rw [if_pos e, if_pos e]
            · rw [if_neg e, if_neg e, if_neg e]
          have HR3 : Hid (Row w (wr.setCell ⟨w.heap.size, k, none⟩ (.int .i64 f)) w.heap.size E.length (upG S (k + 1))) := HR.out.set k _ fun j _ => upG_step g1 j
          clear hS0 hS1 g1 g2 HR hf
          go_wp2_with fail
          go_roundw
          case measure => simp [intOf]; omega
          case rel => exact ⟨k + 1, n + 1, by omega, by omega, by go_num, by go_num, HS2.out, by first | exact HR2.out.alloc _ | exact HR3.out.alloc _⟩
        · have hd : F.drop n = [] := drop_nil hnF
          have hS1 : S.drop k = -1 :: srcL (E.drop (k + 1)) (F.drop n) := hS0.trans (by rw [hd, srcL_out h0])
          obtain ⟨g1, g2⟩ := getD_drop hS1
          have hnI : (F.length : Int) ≤ (n : Int) := by omega
          have hnd : decide ((n : Int) < (F.length : Int)) = false := by rw [decide_eq_false_iff_not]; omega
          have HS2 : Hid (srcL (E.drop (k + 1)) (F.drop n) = S.drop (k + 1)) := g2.symm
          have HR2 : Hid (Row w (wr.setCell ⟨w.heap.size, k, none⟩ (.int .i64 (-1))) w.heap.size E.length (upG S (k + 1))) := HR.out.set k _ fun j _ => upG_step g1 j
          clear hS0 hS1 g1 g2 HR hd
          go_wp2_with fail
          go_roundw
          case measure => simp [intOf]; omega
          case rel => exact ⟨k + 1, n, by omega, by omega, by go_num, rfl, HS2.out, HR2.out.alloc _⟩
    · have HR2 : Hid (Row w wr w.heap.size E.length (fun j => S.getD j 0)) := HR.out.congr fun j hj => by unfold upG; rw [if_pos (by omega)]
      have hkI : (E.length : Int) ≤ (k : Int) := by omega
      clear hs hr HR
      go_wp2_with fail
      go_ret
      exact ⟨rfl, HR2.out⟩

end Go.Proofs.Ytomijmikkbhgmab

namespace Go.Proofs.Ytomijmikkbhgmab
open Go.RowKit

def setG (g : Nat → Int) (i : Nat) (v : Int) : Nat → Int := fun j => if j = i then v else g j
def inN (n : Nat) (x : Int) : Bool := decide (0 ≤ x) && decide (x < (n : Int))
/-- The Writes of a list get their places, from p + 1 on. -/
def wrG (n : Nat) : List Int → Nat → (Nat → Int) → (Nat → Int)
  | [], _, g => g
  | x :: l, p, g => wrG n l (p + 1) (if inN n x then setG g x.toNat ((p : Int) + 1) else g)
def ordG (n : Nat) : List (List Int) → (Nat → Int) → (Nat → Int)
  | [], g => g
  | l :: L, g => ordG n L (wrG n l 0 g)
/-- The Reads get those of what they read from. -/
def rdG (n : Nat) : List Int → Nat → (Nat → Int) → (Nat → Int)
  | [], _, g => g
  | x :: l, r, g => rdG n l (r + 1) (if inN n x then setG g r (g x.toNat) else g)
def rankG (n : Nat) (S : List Int) (order : List (List Int)) : Nat → Int := rdG n S 0 (ordG n order (fun _ => 0))

theorem Row.setG {w wr : World} {bT n : Nat} {g : Nat → Int} (h : Row w wr bT n g) (i : Nat) (x : Int) : Row w (wr.setCell ⟨bT, i, none⟩ (.int .i64 x)) bT n (setG g i x) := h.set i x fun _ _ => rfl

theorem inN_no {n : Nat} {x : Int} (h : ¬ (0 ≤ x ∧ x < (n : Int))) : inN n x = false := by
  unfold inN
  cases hh : (decide (0 ≤ x) && decide (x < (n : Int)))
  · rfl
  · simp only [Bool.and_eq_true, decide_eq_true_eq] at hh; exact absurd hh h
theorem inN_yes {n : Nat} {a : Nat} (h : a < n) : inN n (a : Int) = true := by unfold inN; simp; exact h

set_option maxRecDepth 20000 in
set_option maxHeartbeats 1000000 in
theorem ranks_any (E : List Evt) (hE : E.length ≤ 96) (S : List Int) (hS : S.length = E.length) (order : List (List Int)) (h3 : order.length ≤ 3) (h96 : ∀ l ∈ order, l.length ≤ 96) (v vs vo : Value) (w : World) (h : Ev4At w v E) (hs : IntAt w vs S) (ho : LstAt w vo order) :
    Calls Try.prog 96 #[v, vs, vo] w fun e w' => e = .returned (.slice (some ⟨w.heap.size, 0, none⟩) E.length E.length) ∧ Row w w' w.heap.size E.length (rankG E.length S order) := by
  obtain ⟨ao, b, off, cap, hv, _⟩ := h
  obtain ⟨aos, bs, offs, caps, hvs, has, _, hcs⟩ := hs
  obtain ⟨aoo, bo, offo, capo, hvo, hao, _, hco⟩ := ho
  subst hv hvs hvo
  rw [hS]
  have HS : Hid (∀ k a, S[k]? = some a → IntC w bs (offs + k * 1) a) := hcs
  have HO : Hid (∀ k l, order[k]? = some l → LC w bo (offo + k * 1) l) := hco
  have HL : Hid (∀ l ∈ order, l.length ≤ 96) := h96
  have HSL : Hid (S.length = E.length) := hS
  have hmk := run_make_row' (P := Try.prog) 39 3 (.int .i64 0) 8 Try.underlying39 Try.info3 rfl .i64 .i64 E.length (by omega) (by omega)
  have HG : Hid (rankG E.length S order = rdG E.length S 0 (ordG E.length (order.drop 0) (fun _ => 0))) := rfl
  generalize rankG E.length S order = G at HG ⊢
  generalize E.length = n at *
  have HG0 : Hid (Row w (w.alloc (.cells (madeCells #[.int .i64 0] n) 3)) w.heap.size n (fun _ => 0)) := ⟨below_alloc _ _, World.rowIs_made w (.int .i64 0) n 3, Nat.le_refl _⟩
  clear hcs hco h96 hS
  go_enter Try.func96, Try.ntmps96
  go_wp2_with fail
  clear hmk
  go_loopw [19] (fun i wr => ∃ (k : Nat) (g : Nat → Int), k ≤ order.length ∧ i = .int .i64 k ∧ Hid (G = rdG n S 0 (ordG n (order.drop k) g)) ∧ Hid (Row w wr w.heap.size n g)) (fun i _ => order.length - (intOf i).toNat)
  case atStart => exact ⟨0, _, Nat.zero_le _, rfl, HG.out, HG0.out⟩
  case round =>
    clear HG HG0
    obtain ⟨k, g, hk, rfl, hg, hr⟩ := hrel
    have HR := hr
    by_cases hlt : k < order.length
    · obtain ⟨l, hl⟩ := get_of_lt hlt
      obtain rfl := hao (ne_nil hlt)
      obtain ⟨ul, u0, iul⟩ := lc_keeps _ _ _ _ _ hr.out.hb (HO.out k l hl)
      obtain ⟨aol, bl, offl, capl, hvl, hal, _, _⟩ := iul
      subst hvl
      rw [Nat.mul_one] at u0
      have hl96 := HL.out l (List.mem_of_getElem? hl)
      obtain ⟨ul2, u02, iul2⟩ := HO.out k l hl
      rw [Nat.mul_one] at u02
      have hu2 : ul2 = .slice aol l.length capl := by have h1 := keep_cell hr.out.hb u02; rw [u0] at h1; exact (Option.some.inj h1).symm
      subst hu2
      obtain ⟨aol', bl', offl', capl', hvl', hal', _, hcl'⟩ := iul2
      simp only [Value.slice.injEq] at hvl'
      obtain ⟨rfl, _, rfl⟩ := hvl'
      have HCL : Hid (∀ k a, l[k]? = some a → IntC w bl' (offl' + k * 1) a) := hcl'
      have HG1 : Hid (G = rdG n S 0 (ordG n (order.drop (k + 1)) (wrG n (l.drop 0) 0 g))) := hg.out.trans (by rw [drop_cons hl]; rfl)
      have hkI : (k : Int) < (order.length : Int) := by omega
      clear hg hr hcl' hl hal u02
      go_wp2_with fail
      clear u0
      go_loopw [25] (fun i wr => ∃ (p : Nat) (g : Nat → Int), p ≤ l.length ∧ i = .int .i64 p ∧ Hid (G = rdG n S 0 (ordG n (order.drop (k + 1)) (wrG n (l.drop p) p g))) ∧ Hid (Row w wr w.heap.size n g)) (fun i _ => l.length - (intOf i).toNat)
      case atStart => exact ⟨0, g, Nat.zero_le _, rfl, HG1.out, HR.out⟩
      case round =>
        clear HG1 HR
        obtain ⟨p, g2, hp, rfl, hg, hr⟩ := hrel
        have HR := hr
        by_cases hpl : p < l.length
        · obtain ⟨x, hx⟩ := get_of_lt hpl
          obtain rfl := hal' (ne_nil hpl)
          have q0 := intC_keeps _ _ _ _ _ hr.out.hb (HCL.out p x hx)
          unfold IntC at q0
          rw [Nat.mul_one] at q0
          have hpI : (p : Int) < (l.length : Int) := by omega
          have HG2 : Hid (G = rdG n S 0 (ordG n (order.drop (k + 1)) (wrG n (l.drop (p + 1)) (p + 1) (if inN n x then setG g2 x.toNat ((p : Int) + 1) else g2)))) := hg.out.trans (by rw [drop_cons hx]; rfl)
          clear hg hr hx
          by_cases hin : 0 ≤ x ∧ x < (n : Int)
          · obtain ⟨hx0, hxn⟩ := hin
            obtain ⟨a, rfl⟩ := Int.eq_ofNat_of_zero_le hx0
            have han : a < n := by omega
            have HG3 : Hid (G = rdG n S 0 (ordG n (order.drop (k + 1)) (wrG n (l.drop (p + 1)) (p + 1) (setG g2 a ((p : Int) + 1))))) := HG2.out.trans (by rw [if_pos (inN_yes han), Int.toNat_natCast])
            have HR2 : Hid (Row w (wr.setCell ⟨w.heap.size, a, none⟩ (.int .i64 ((p : Int) + 1))) w.heap.size n (setG g2 a ((p : Int) + 1))) := HR.out.setG a _
            have t0 := HR.out.row.cell han
            have z0 := HR.out.row.frozen a
            have s0 := HR.out.row.lt
            clear HR HG2
            go_wp2_with fail
            go_roundw
            case measure => simp [intOf]; omega
            case rel => exact ⟨p + 1, _, by omega, by go_num, HG3.out, HR2.out⟩
          · have HG3 : Hid (G = rdG n S 0 (ordG n (order.drop (k + 1)) (wrG n (l.drop (p + 1)) (p + 1) g2))) := HG2.out.trans (by rw [if_neg (by rw [inN_no hin]; simp)])
            clear HG2
            cases hx0 : decide (0 ≤ x)
            · go_wp2_with fail
              go_roundw
              case measure => simp [intOf]; omega
              case rel => exact ⟨p + 1, _, by omega, by go_num, HG3.out, HR.out⟩
            · have hxn : decide (x < (n : Int)) = false := by
                rw [decide_eq_false_iff_not]
                intro h
                simp only [decide_eq_true_eq] at hx0
                exact hin ⟨hx0, h⟩
              go_wp2_with fail
              go_roundw
              case measure => simp [intOf]; omega
              case rel => exact ⟨p + 1, _, by omega, by go_num, HG3.out, HR.out⟩
        · have HG2 : Hid (G = rdG n S 0 (ordG n (order.drop (k + 1)) g2)) := hg.out.trans (by rw [drop_nil hpl]; rfl)
          have hpI : (l.length : Int) ≤ (p : Int) := by omega
          clear hg hr
          go_wp2_with fail
          go_roundw
          case measure => simp [intOf]; omega
          case rel => exact ⟨k + 1, _, by omega, by go_num, HG2.out, HR.out⟩
    · have HG1 : Hid (G = rdG n (S.drop 0) 0 g) := hg.out.trans (by rw [drop_nil hlt]; rfl)
      have hkI : (order.length : Int) ≤ (k : Int) := by omega
      clear hg hr
      go_wp2_with fail
      go_loopw [47] (fun i wr => ∃ (r : Nat) (g : Nat → Int), r ≤ n ∧ i = .int .i64 r ∧ Hid (G = rdG n (S.drop r) r g) ∧ Hid (Row w wr w.heap.size n g)) (fun i _ => n - (intOf i).toNat)
      case atStart => exact ⟨0, _, Nat.zero_le _, rfl, HG1.out, HR.out⟩
      case round =>
        clear HG1 HR
        obtain ⟨r, g2, hrn, rfl, hg, hr⟩ := hrel
        have HR := hr
        by_cases hlt2 : r < n
        · obtain ⟨x, hx⟩ := get_of_lt (l := S) (k := r) (by have := HSL.out; omega)
          obtain rfl := has (by intro h; rw [h] at hx; simp at hx)
          have q0 := intC_keeps _ _ _ _ _ hr.out.hb (HS.out r x hx)
          unfold IntC at q0
          rw [Nat.mul_one] at q0
          have hrI : (r : Int) < (n : Int) := by omega
          have HG2 : Hid (G = rdG n (S.drop (r + 1)) (r + 1) (if inN n x then setG g2 r (g2 x.toNat) else g2)) := hg.out.trans (by rw [drop_cons hx]; rfl)
          clear hg hr hx
          by_cases hin : 0 ≤ x ∧ x < (n : Int)
          · obtain ⟨hx0, hxn⟩ := hin
            obtain ⟨a, rfl⟩ := Int.eq_ofNat_of_zero_le hx0
            have han : a < n := by omega
            have HG3 : Hid (G = rdG n (S.drop (r + 1)) (r + 1) (setG g2 r (g2 a))) := HG2.out.trans (by rw [if_pos (inN_yes han), Int.toNat_natCast])
            have HR2 : Hid (Row w (wr.setCell ⟨w.heap.size, r, none⟩ (.int .i64 (g2 a))) w.heap.size n (setG g2 r (g2 a))) := HR.out.setG r _
            have t0 := HR.out.row.cell han
            have t1 := HR.out.row.cell hlt2
            have z0 := HR.out.row.frozen r
            have s0 := HR.out.row.lt
            clear HR HG2
            go_wp2_with fail
            go_roundw
            case measure => simp [intOf]; omega
            case rel => exact ⟨r + 1, _, by omega, by go_num, HG3.out, HR2.out⟩
          · have HG3 : Hid (G = rdG n (S.drop (r + 1)) (r + 1) g2) := HG2.out.trans (by rw [if_neg (by rw [inN_no hin]; simp)])
            clear HG2
            cases hx0 : decide (0 ≤ x)
            · go_wp2_with fail
              go_roundw
              case measure => simp [intOf]; omega
              case rel => exact ⟨r + 1, _, by omega, by go_num, HG3.out, HR.out⟩
            · have hxn : decide (x < (n : Int)) = false := by
                rw [decide_eq_false_iff_not]
                intro h
                simp only [decide_eq_true_eq] at hx0
                exact hin ⟨hx0, h⟩
              go_wp2_with fail
              go_roundw
              case measure => simp [intOf]; omega
              case rel => exact ⟨r + 1, _, by omega, by go_num, HG3.out, HR.out⟩
        · have HG2 : Hid (g2 = G) := (hg.out.trans (by rw [drop_nil (by have := HSL.out; omega)]; rfl)).symm
          have hrI : (n : Int) ≤ (r : Int) := by omega
          have HR2 : Hid (Row w wr w.heap.size n G) := by rw [← HG2.out]; exact HR.out
          clear hg hr HR
          go_wp2_with fail
          go_ret
          exact ⟨rfl, HR2.out⟩

end Go.Proofs.Ytomijmikkbhgmab

namespace Go.Proofs.Ytomijmikkbhgmab
open Go.RowKit

/-- A test that may be: few threads, short ones. -/
structure Short (T : List (List Ins)) : Prop where
  t4 : T.length ≤ 4
  l12 : ∀ l ∈ T, l.length ≤ 12

theorem instrEv_any (T : List (List Ins)) (hS : Short T) (vt : Value) (y : Evt) (i p : Nat) (l : List Ins) (h : EvIn T y i p l) (w : World) (ht : ThrAt w vt T) :
    Calls Try.prog 118 #[vt, e4V y] w fun e w' => e = .returned (.agg #[.int .i64 y.ins.op, .int .i64 y.ins.loc, .int .i64 y.ins.reg, .int .i64 y.ins.val, .int .i64 y.ins.mode]) ∧ Below w.heap.size w w' := by
  have := instrOf_any T hS.t4 vt i p l y.ins (hS.l12 l (List.mem_of_getElem? h.l0)) h.l0 h.l1 y.kind y.loc w ht
  unfold e4V
  rw [h.th, h.pl]
  exact this

def modB (a b : Evt) : Bool := (a.kind == 0 && a.ins.mode == 1) || (b.kind == 1 && b.ins.mode == 2)

set_option maxHeartbeats 2000000 in
theorem isModed_any (T : List (List Ins)) (hS : Short T) (vt : Value) (a b : Evt) (ia pa ib pb : Nat) (la lb : List Ins) (ha : EvIn T a ia pa la) (hb : EvIn T b ib pb lb) (w : World) (ht : ThrAt w vt T) :
    Calls Try.prog 121 #[vt, e4V a, e4V b] w fun e w' => e = .returned (.bool (modB a b)) ∧ Below w.heap.size w w' := by
  have HT : Hid (ThrAt w vt T ∧ EvIn T a ia pa la ∧ EvIn T b ib pb lb ∧ Short T) := ⟨ht, ha, hb, hS⟩
  have HB : Hid (modB a b = ((a.kind == 0 && a.ins.mode == 1) || (b.kind == 1 && b.ins.mode == 2))) := rfl
  generalize modB a b = B at HB ⊢
  obtain ⟨_, aoT, bT, offT, capT, hvT, _⟩ := ht
  subst hvT
  clear ha hb hS
  unfold e4V
  have HX := box4_two w a b 92
  have hbw := below_two w (.cells #[.int .i64 a.thread, .int .i64 a.place, .int .i64 a.kind, .int .i64 a.loc] 92) (.cells #[.int .i64 b.thread, .int .i64 b.place, .int .i64 b.kind, .int .i64 b.loc] 92)
  go_enter Try.func121, Try.ntmps121
  go_wp2_with fail
  generalize hW : (w.alloc (.cells #[.int .i64 a.thread, .int .i64 a.place, .int .i64 a.kind, .int .i64 a.loc] 92)).alloc (.cells #[.int .i64 b.thread, .int .i64 b.place, .int .i64 b.kind, .int .i64 b.loc] 92) = W at HX hbw ⊢
  clear hW
  refine (instrEv_any T HT.out.2.2.2 _ a ia pa la HT.out.2.1 W (HT.out.1.keep hbw)).mono ?_
  rintro e w3 ⟨rfl, hb3⟩
  have hbw3 := below_more hbw hb3
  obtain ⟨a0, a1, a2, a3⟩ := HX.1.keep hb3
  obtain ⟨b0, b1, b2, b3⟩ := HX.2.keep hb3
  have m0 := (HX.1.keep hb3).lt
  have m1 := (HX.2.keep hb3).lt
  have hgo : Hid (∀ w5, Below w.heap.size w w5 → Calls Try.prog 118 #[.slice aoT T.length capT, e4V b] w5 fun e w' => e = .returned (.agg #[.int .i64 b.ins.op, .int .i64 b.ins.loc, .int .i64 b.ins.reg, .int .i64 b.ins.val, .int .i64 b.ins.mode]) ∧ Below w5.heap.size w5 w') :=
    fun w5 hb5 => instrEv_any T HT.out.2.2.2 _ b ib pb lb HT.out.2.2.1 w5 (HT.out.1.keep hb5)
  cases k0 : a.kind == 0
  all_goals cases m1' : a.ins.mode == 1
  case true.true =>
    have HM : Hid (B = true) := HB.out.trans (by rw [k0, m1']; rfl)
    go_wp2_with fail
    go_ret
    exact ⟨by rw [HM.out]; rfl, hbw3.alloc hbw3.size _⟩
  all_goals
    have HB2 : Hid (B = (b.kind == 1 && b.ins.mode == 2)) := HB.out.trans (by rw [k0, m1']; rfl)
    go_wp2_with fail
    refine (hgo.out _ (hbw3.alloc hbw3.size _)).mono ?_
    rintro e w5 ⟨rfl, hb5⟩
    have hbw5 := below_more (hbw3.alloc hbw3.size (.cells #[.int .i64 a.ins.op, .int .i64 a.ins.loc, .int .i64 a.ins.reg, .int .i64 a.ins.val, .int .i64 a.ins.mode] 37)) hb5
    obtain ⟨d0, d1, d2, d3⟩ := ((HX.2.keep hb3).keep (below_alloc w3 (.cells #[.int .i64 a.ins.op, .int .i64 a.ins.loc, .int .i64 a.ins.reg, .int .i64 a.ins.val, .int .i64 a.ins.mode] 37))).keep hb5
    have m5 := World.block_lt_of_cell? _ _ d0
    simp only at m5
    cases k1 : b.kind == 1
    · have HM : Hid (B = false) := HB2.out.trans (by rw [k1]; rfl)
      go_wp2_with fail
      go_ret
      exact ⟨by rw [HM.out]; rfl, hbw5.alloc hbw5.size _⟩
    · have HM : Hid (B = (b.ins.mode == 2)) := HB2.out.trans (by rw [k1]; rfl)
      go_wp2_with fail
      go_ret
      exact ⟨by rw [HM.out]; rfl, hbw5.alloc hbw5.size _⟩

theorem fen1_eq (a b : Evt) (z : Ins) : fen1 a b z = (z.op == 4 && hldB z.mode a.kind b.kind) := rfl

set_option maxHeartbeats 2000000 in
theorem isFenced_any (T : List (List Ins)) (hS : Short T) (vt : Value) (a b : Evt) (i pa pb : Nat) (l : List Ins) (hai : a.thread = (i : Int)) (hap : a.place = (pa : Int)) (hbp : b.place = (pb : Int)) (hl : T[i]? = some l) (hpa : pa ≤ l.length) (hpb : pb ≤ l.length) (w : World) (ht : ThrAt w vt T) :
    Calls Try.prog 120 #[vt, e4V a, e4V b] w fun e w' => e = .returned (.bool (fenB l a b)) ∧ Below w.heap.size w w' := by
  have hl12 := hS.l12 l (List.mem_of_getElem? hl)
  have HT : Hid (ThrAt w vt T ∧ Short T ∧ T[i]? = some l) := ⟨ht, hS, hl⟩
  have HB : Hid (fenB l a b = ((l.take pb).drop (pa + 1)).any (fen1 a b)) := by show fenB l a b = _; unfold fenB; rw [hap, hbp]; rfl
  generalize fenB l a b = B at HB ⊢
  obtain ⟨_, aoT, bT, offT, capT, hvT, _⟩ := ht
  subst hvT
  have HE : Hid (a.thread = (i : Int) ∧ a.place = (pa : Int) ∧ b.place = (pb : Int)) := ⟨hai, hap, hbp⟩
  clear hS hl hai hap hbp
  unfold e4V
  have HX := box4_two w a b 92
  have hbw := below_two w (.cells #[.int .i64 a.thread, .int .i64 a.place, .int .i64 a.kind, .int .i64 a.loc] 92) (.cells #[.int .i64 b.thread, .int .i64 b.place, .int .i64 b.kind, .int .i64 b.loc] 92)
  have hW : ∃ W, (w.alloc (.cells #[.int .i64 a.thread, .int .i64 a.place, .int .i64 a.kind, .int .i64 a.loc] 92)).alloc (.cells #[.int .i64 b.thread, .int .i64 b.place, .int .i64 b.kind, .int .i64 b.loc] 92) = W := ⟨_, rfl⟩
  go_enter Try.func120, Try.ntmps120
  go_upto_region 1 with fail
  obtain ⟨W, hW⟩ := hW
  rw [hW] at HX hbw ⊢
  clear hW
  have HXX : Hid (Box4 W w.heap.size a ∧ Box4 W (w.heap.size + 1) b) := HX
  obtain ⟨⟨a0, a1, a2, a3⟩, ⟨b0, b1, b2, b3⟩⟩ := HX
  rw [HE.out.2.1] at a1
  go_wp2_with fail
  clear a0 a1 a2 a3 b0 b1 b2 b3
  go_loopw [7] (fun i' wr => ∃ k : Nat, pa + 1 ≤ k ∧ k ≤ 13 ∧ i' = .int .i64 k ∧ Hid (B = ((l.take pb).drop k).any (fen1 a b)) ∧ Below W.heap.size W wr) (fun i' _ => 13 - (intOf i').toNat)
  case atStart => exact ⟨pa + 1, Nat.le_refl _, by omega, by go_num, HB.out, Below.refl _ _⟩
  case round =>
    clear HB
    obtain ⟨k, hk1, hk2, rfl, hn, hbr⟩ := hrel
    obtain ⟨a0, a1, a2, a3⟩ := HXX.out.1.keep hbr
    obtain ⟨b0, b1, b2, b3⟩ := HXX.out.2.keep hbr
    rw [HE.out.1] at a0
    rw [HE.out.2.2] at b1
    by_cases hlt : k < pb
    · obtain ⟨z, hz⟩ := get_of_lt (l := l) (k := k) (by omega)
      have HN : Hid (B = ((z.op == 4 && hldB z.mode a.kind b.kind) || ((l.take pb).drop (k + 1)).any (fen1 a b))) := hn.out.trans (by rw [drop_cons (take_at hz hlt), List.any_cons, fen1_eq])
      have HC : Hid (∀ w5, Below w.heap.size w w5 → Calls Try.prog 118 #[.slice aoT T.length capT, .agg #[.int .i64 i, .int .i64 k, .int .i64 0, .int .i64 0]] w5 fun e w' => e = .returned (.agg #[.int .i64 z.op, .int .i64 z.loc, .int .i64 z.reg, .int .i64 z.val, .int .i64 z.mode]) ∧ Below w5.heap.size w5 w') :=
        fun w5 hb5 => instrOf_any T HT.out.2.1.t4 _ i k l z (HT.out.2.1.l12 l (List.mem_of_getElem? HT.out.2.2)) HT.out.2.2 hz 0 0 w5 (HT.out.1.keep hb5)
      have hkI : (k : Int) < (pb : Int) := by omega
      have hbwr := below_more hbw hbr
      clear hn hz
      go_wp2_with fail
      refine (HC.out _ hbwr).mono ?_
      rintro e w5 ⟨rfl, hb5⟩
      have hb6 := below_more hbr hb5
      clear a0 a1 a2 a3 b0 b1 b2 b3
      obtain ⟨a0, a1, a2, a3⟩ := HXX.out.1.keep hb6
      obtain ⟨b0, b1, b2, b3⟩ := HXX.out.2.keep hb6
      rw [HE.out.2.2] at b1
      have m5 := World.block_lt_of_cell? _ _ a0
      have m6 := World.block_lt_of_cell? _ _ b0
      simp only at m5 m6
      cases hz4 : z.op == 4
      · have HM : Hid (B = ((l.take pb).drop (k + 1)).any (fen1 a b)) := HN.out.trans (by rw [hz4]; rfl)
        clear HN
        go_wp2_with fail
        go_roundw
        case measure => simp [intOf]; omega
        case rel => exact ⟨k + 1, by omega, by omega, by go_num, HM.out, hb6.alloc hb6.size _⟩
      · generalize hh : hldB z.mode a.kind b.kind = Hb at HN
        have HH : Hid (hldB z.mode a.kind b.kind = Hb) := hh
        have HN2 : Hid (B = (Hb || ((l.take pb).drop (k + 1)).any (fen1 a b))) := HN.out.trans (by rw [hz4]; rfl)
        clear hh HN
        go_wp2_with fail
        refine (holds_any z.mode a.kind b.kind _).mono ?_
        rw [HH.out]
        rintro e w7 ⟨rfl, rfl⟩
        cases Hb
        · have HM : Hid (B = ((l.take pb).drop (k + 1)).any (fen1 a b)) := HN2.out.trans (by rfl)
          go_wp2_with fail
          go_roundw
          case measure => simp [intOf]; omega
          case rel => exact ⟨k + 1, by omega, by omega, by go_num, HM.out, hb6.alloc hb6.size _⟩
        · have HM : Hid (B = true) := HN2.out.trans (by rfl)
          go_wp2_with fail
          go_ret
          exact ⟨by rw [HM.out]; rfl, below_more hbw (hb6.alloc hb6.size _)⟩
    · have HM : Hid (B = false) := hn.out.trans (by rw [drop_nil (l := l.take pb) (k := k) (by rw [List.length_take]; omega)]; rfl)
      have hkI : (pb : Int) ≤ (k : Int) := by omega
      clear hn
      go_wp2_with fail
      go_ret
      exact ⟨by rw [HM.out]; rfl, below_more hbw hbr⟩

end Go.Proofs.Ytomijmikkbhgmab
