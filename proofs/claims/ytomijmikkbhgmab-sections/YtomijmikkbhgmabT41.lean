import Derived.Test.YtomijmikkbhgmabT40
import Derived.Test.YtomijmikkbhgmabLt
import Derived.Test.YtomijmikkbhgmabT3
import Derived.Laws.OwnMore
import Derived.Test.YtomijmikkbhgmabT35
import Derived.Test.YtomijmikkbhgmabT38
import Derived.KernelRfl
namespace Go.Proofs.Ytomijmikkbhgmab

theorem isAt_get {E : List Evt} {i : Nat} {k loc op val : Int} (h : isAt E i k loc op val = true) : ∃ y, E[i]? = some y ∧ y.kind = k ∧ y.loc = loc ∧ y.ins.op = op ∧ y.ins.val = val := by
  unfold isAt at h
  cases hy : E[i]? with
  | none => rw [hy] at h; cases h
  | some y =>
    rw [hy] at h
    simp only [Bool.and_eq_true, beq_iff_eq] at h
    exact ⟨y, rfl, h.1.1.1, h.1.1.2, h.1.2, h.2⟩

theorem alw_parts {T : List (List Ins)} {E : List Evt} {x : Exe} (h : Alw T E x) : Parts E.length (mtL (thoL 2 E 0) (thoL 3 E 0) (thoL 4 E 0)) (kepA T E x) := by
  have := alB_iff.2 h
  unfold alB at this
  simp only [Bool.and_eq_true, partsB_iff] at this
  exact this.2

theorem kep_mem {T : List (List Ins)} {E : List Evt} {x : Exe} {a b : Nat} (h : pairB E (keepP T E) a b = true) (hab : a < b) (hb : b < E.length) : ((a : Int), (b : Int)) ∈ kepA T E x := List.mem_append_right _ (allD_mem.2 ⟨hb, hab, h⟩)

theorem split_no {T : List (List Ins)} {E : List Evt} (hl : E.length ≤ 96) (hloc : ∀ y ∈ E, locB y.loc = true) {x : Exe} (hx : IsEx E x) (hA : Alw T E x) (h01 : pairB E (keepP T E) 0 1 = true) (h23 : pairB E (keepP T E) 2 3 = true) (i0 : isAt E 0 1 0 0 1 = true) (i3 : isAt E 3 1 1 0 1 = true) (w0 : wrs E 0 0 = [0]) (w1 : wrs E 0 1 = [3])
    (b : Nat) (hb4 : 4 ≤ b) (pt : List Int) (k : Nat) (hR : secR T E b pt k = true) (m : Mt) (hm : m ∈ mtL (thoL 2 E 0) (thoL 3 E 0) (thoL 4 E 0)) (hmB : mtB m (b : Int) ((b + 1 + pt.length : Nat) : Int) 1 2 = true)
    (i j : Nat) (hi : pt[i]? = some 0) (hj : pt[j]? = some 1) (hs0 : regV E (frS E x) k i = 0) (hs1 : regV E (frS E x) k j = 1) : False := by
  have hr := hx.ranks hl hloc
  have hli := (List.getElem?_eq_some_iff.1 hi).1
  have hlj := (List.getElem?_eq_some_iff.1 hj).1
  unfold secR at hR
  simp only [Bool.and_eq_true, List.all_eq_true, List.mem_range, decide_eq_true_eq, beq_iff_eq] at hR
  obtain ⟨hbl, hR⟩ := hR
  obtain ⟨⟨⟨ki, _⟩, ai⟩, si⟩ := hR i hli
  obtain ⟨⟨⟨_, kj⟩, aj⟩, sj⟩ := hR j hlj
  obtain ⟨y, hy, y1, y2, _, _⟩ := isAt_get ai
  obtain ⟨z, hz, z1, z2, _, _⟩ := isAt_get aj
  obtain ⟨e0, he0, e01, e02, e03, e04⟩ := isAt_get i0
  obtain ⟨e3, he3, e31, e32, e33, e34⟩ := isAt_get i3
  have hyl : y.loc = 0 := by rw [y2, List.getD_eq_getElem?_getD, hi]; rfl
  have hzl : z.loc = 1 := by rw [z2, List.getD_eq_getElem?_getD, hj]; rfl
  obtain ⟨d, hd⟩ : ∃ d, 2 * E.length = d + 1 + 1 := ⟨2 * E.length - 2, by omega⟩
  have fS : ∀ r u, E[r]? = some u → u.kind = 0 → frS E x r = srcS E x r := fun r u hu hk => (src_same hl hloc hx r u hu (by simp [hk])).symm
  -- the load of x
  have hSy : srcS E x (b + 1 + i) = -1 := by
    rcases hr.read _ y hy y1 with ⟨h, _⟩ | ⟨a, q, h1, _, h3, _⟩
    · exact h
    · exfalso
      have ha : (a : Int) ∈ wrs E 0 0 := by
        have := (hr.mem 0 (by decide) (a : Int)).1 (by rw [← hyl]; exact List.mem_of_getElem? h3)
        exact wrs_iff.2 this
      rw [w0] at ha
      have ha0 : a = 0 := by simpa using ha
      subst ha0
      unfold regV at hs0
      rw [si, hd, valN_read hy (by simp [y1]), fS _ y hy y1] at hs0
      have : valN E (frS E x) (d + 1) (srcS E x (b + 1 + i)) = 1 := by
        have h1' : srcS E x (b + 1 + i) = ((0 : Nat) : Int) := h1
        rw [h1', valN_else he0 (by simp [e01]) (by simp [e03]), e04]
      rw [this] at hs0
      cases hs0
  have hSz : srcS E x (b + 1 + j) = 3 := by
    rcases hr.read _ z hz z1 with ⟨h, _⟩ | ⟨a, q, h1, _, h3, _⟩
    · exfalso
      unfold regV at hs1
      rw [sj, hd, valN_read hz (by simp [z1]), fS _ z hz z1] at hs1
      have h1' : srcS E x (b + 1 + j) = -1 := h
      rw [h1', valN_neg _ _ _ (by omega)] at hs1
      cases hs1
    · have ha : (a : Int) ∈ wrs E 0 1 := by
        have := (hr.mem 1 (by decide) (a : Int)).1 (by rw [← hzl]; exact List.mem_of_getElem? h3)
        exact wrs_iff.2 this
      rw [w1] at ha
      have ha0 : (a : Int) = 3 := by simpa using ha
      rw [← ha0]
      exact h1
  have ay : (((b + 1 + i : Nat) : Int), ((0 : Nat) : Int)) ∈ kepA T E x := by
    refine List.mem_append_left _ (List.mem_append_left _ (List.mem_flatMap.2 ⟨((b + 1 + i, y), -1), (hr.zip _ _ _).2 ⟨hy, y1, hSy⟩, ?_⟩))
    unfold arw1
    refine List.mem_append_right _ (fanL_mem.2 ⟨rfl, ?_⟩)
    show ((0 : Nat) : Int) ∈ restL (ordAt x y.loc) (-1)
    unfold restL
    rw [if_pos (by rfl), hyl]
    exact (hr.mem 0 (by decide) _).2 ⟨0, e0, he0, rfl, e01, e02⟩
  have az : (((3 : Nat) : Int), ((b + 1 + j : Nat) : Int)) ∈ kepA T E x := by
    refine List.mem_append_left _ (List.mem_append_left _ (List.mem_flatMap.2 ⟨((b + 1 + j, z), 3), (hr.zip _ _ _).2 ⟨hz, z1, hSz⟩, ?_⟩))
    unfold arw1
    refine List.mem_append_left _ ?_
    show _ ∈ if ((3 : Int) == -1) = true then [] else _
    rw [if_neg (by decide)]
    exact List.mem_singleton.2 rfl
  have hP := alw_parts hA
  rw [parts_iff] at hP
  obtain ⟨β, hC⟩ := hP
  obtain ⟨c, hc⟩ := List.getElem?_of_mem hm
  have hp := List.mem_of_getElem? (chS_get _ β c m hc)
  unfold mtB at hmB
  simp only [Bool.and_eq_true, beq_iff_eq] at hmB
  obtain ⟨⟨⟨m1, m2⟩, m3⟩, m4⟩ := hmB
  refine hC ?_
  cases hβ : β c
  · rw [hβ] at hp
    have hp' : (((b + 1 + pt.length : Nat) : Int), ((2 : Nat) : Int)) ∈ chS β (mtL (thoL 2 E 0) (thoL 3 E 0) (thoL 4 E 0)) := by
      have e : pick false m = (((b + 1 + pt.length : Nat) : Int), ((2 : Nat) : Int)) := by unfold pick; rw [m2, m4]; rfl
      rw [← e]; exact hp
    exact cyc4 (a := 2) (b := 3) (c := b + 1 + j) (d := b + 1 + pt.length) (by omega) (by omega) (by omega) hbl (List.mem_append_left _ (kep_mem h23 (by omega) (by omega))) (List.mem_append_left _ az) (List.mem_append_left _ (kep_mem kj (by omega) hbl)) (List.mem_append_right _ hp')
  · rw [hβ] at hp
    have hp' : (((1 : Nat) : Int), (b : Int)) ∈ chS β (mtL (thoL 2 E 0) (thoL 3 E 0) (thoL 4 E 0)) := by
      have e : pick true m = (((1 : Nat) : Int), (b : Int)) := by unfold pick; rw [m1, m3]; rfl
      rw [← e]; exact hp
    exact cyc4 (a := 1) (b := b) (c := b + 1 + i) (d := 0) (by omega) (by omega) (by omega) (by omega) (List.mem_append_right _ hp') (List.mem_append_left _ (kep_mem ki (by omega) (by omega))) (List.mem_append_left _ ay) (List.mem_append_left _ (kep_mem h01 (by omega) (by omega)))

end Go.Proofs.Ytomijmikkbhgmab

namespace Go.Proofs.Ytomijmikkbhgmab
open Go.RowKit

/-- Nothing turns from block B on. -/
def Same (B : Nat) (w w' : World) : Prop := w.heap.size ≤ w'.heap.size ∧ ∀ b : Nat, B ≤ b → b < w.heap.size → w'.heap[b]? = w.heap[b]?
theorem Same.refl (B : Nat) (w : World) : Same B w w := ⟨Nat.le_refl _, fun _ _ _ => rfl⟩
theorem Same.of {B : Nat} {w w1 w2 : World} (hb : Below w.heap.size w w1) (h : Same B w1 w2) : Same B w w2 := ⟨Nat.le_trans hb.size h.1, fun b h1 h2 => (h.2 b h1 (Nat.lt_of_lt_of_le h2 hb.size)).trans (hb.block b h2)⟩
theorem Same.set {B : Nat} {w w' : World} (h : Same B w w') {R o : Nat} (hR : R < B) (u : Value) : Same B w (w'.setCell ⟨R, o, none⟩ u) :=
  ⟨by simpa [World.setCell] using h.1, fun b h1 h2 => by rw [Below.heap_setCell _ _ _ _ (by show b ≠ R; omega)]; exact h.2 b h1 h2⟩

def InsS (B : Nat) (w : World) (u : Value) (l : List Ins) : Prop := ∀ w', Same B w w' → InsAt w' u l
def ThrS (B : Nat) (w : World) (u : Value) (T : List (List Ins)) : Prop := ∀ w', Same B w w' → ThrAt w' u T
def AtmS (B : Nat) (w : World) (u : Value) (c : List Atm) : Prop := ∀ w', Same B w w' → AtmAt w' u c
theorem InsS.keep {B : Nat} {w w1 : World} {u : Value} {l : List Ins} (h : InsS B w u l) (hb : Below w.heap.size w w1) : InsS B w1 u l := fun _ hs => h _ (Same.of hb hs)
theorem ThrS.keep {B : Nat} {w w1 : World} {u : Value} {T : List (List Ins)} (h : ThrS B w u T) (hb : Below w.heap.size w w1) : ThrS B w1 u T := fun _ hs => h _ (Same.of hb hs)
theorem AtmS.keep {B : Nat} {w w1 : World} {u : Value} {c : List Atm} (h : AtmS B w u c) (hb : Below w.heap.size w w1) : AtmS B w1 u c := fun _ hs => h _ (Same.of hb hs)

theorem InsS.of_own {B base : Nat} {w : World} {e : TypeId} {v : Value} {l : List Ins} (hl : l.length ≤ 100) (h : w.ownsRow base e 5 v l.length (l.flatMap insV)) (hB : B ≤ base) : InsS B w v l := fun w' hs =>
  owns_ins (by omega) (own_other h (fun b hb => hs.2 b (Nat.le_trans hB (h.lt b hb).1) (h.lt b hb).2))

theorem InsS.form {B : Nat} {w : World} {u : Value} {l : List Ins} (h : InsS B w u l) : ∃ ao cap, u = .slice ao l.length cap := by
  obtain ⟨_, ao, b, off, cap, hs⟩ := h w (Same.refl _ _)
  exact ⟨ao, cap, hs.hv⟩

/-- Rows of a literal. -/
theorem ThrS.lit {B : Nat} {w : World} {us : List Value} {Ls : List (List Ins)} {t : TypeId} (hB : B ≤ w.heap.size) (hlen : us.length = Ls.length) (hl : Ls.length ≤ 100) (h : ∀ (i : Nat) (l : List Ins), Ls[i]? = some l → ∃ u, us[i]? = some u ∧ InsS B w u l) :
    ThrS B (w.alloc (.cells us.toArray t)) (.slice (some ⟨w.heap.size, 0, none⟩) Ls.length Ls.length) Ls := by
  intro w' hs
  refine ⟨by omega, _, w.heap.size, 0, _, rfl, fun _ => rfl, fun h => by simp at h, fun k l hk => ?_⟩
  obtain ⟨u, h1, h2⟩ := h k l hk
  have hc : (w.alloc (.cells us.toArray t)).cell? ⟨w.heap.size, k, none⟩ = some u := by
    rw [cell_of_row _ _ k us.toArray t (0, 0) (heap_alloc_new w _)]
    simpa using h1
  refine ⟨u, ?_, h2 w' (Same.of (below_alloc w _) hs)⟩
  rw [Nat.zero_add, Nat.mul_one]
  exact cell_heap (hs.2 w.heap.size hB (by simp)) hc

theorem AtmS.lit {B : Nat} {w : World} {c : List Atm} {t : TypeId} (hB : B ≤ w.heap.size) (hl : c.length ≤ 100) :
    AtmS B (w.alloc (.cells (c.flatMap atmV).toArray t)) (.slice (some ⟨w.heap.size, 0, none⟩) c.length c.length) c := by
  intro w' hs
  refine ⟨by omega, _, w.heap.size, 0, _, rfl, fun _ => rfl, fun h => by simp at h, fun k x hk => ?_⟩
  have hc : ∀ j u, (atmV x)[j]? = some u → w'.cell? ⟨w.heap.size, 0 + k * 3 + j, none⟩ = some u := fun j u hj => by
    have hj3 : j < 3 := (List.getElem?_eq_some_iff.1 hj).1
    refine cell_heap (hs.2 w.heap.size hB (by simp)) ?_
    rw [cell_of_row _ _ _ (c.flatMap atmV).toArray t (0, 0) (heap_alloc_new w _)]
    have := flat_get atmV 3 (fun _ => rfl) c k j x hk hj3
    rw [Nat.zero_add]
    simpa [this] using hj
  exact ⟨hc 0 _ rfl, hc 1 _ rfl, hc 2 _ rfl⟩

theorem InsS.lit {B : Nat} {w : World} {l : List Ins} {t : TypeId} (hB : B ≤ w.heap.size) (hl : l.length ≤ 100) :
    InsS B (w.alloc (.cells (l.flatMap insV).toArray t)) (.slice (some ⟨w.heap.size, 0, none⟩) l.length l.length) l := by
  refine InsS.of_own (base := w.heap.size) (e := t) hl ?_ hB
  have := World.ownsRow_lit (base := w.heap.size) (e := t) (size := 5) w (l.flatMap insV).toArray l.length (Nat.le_refl _) (by unfold maxLen; omega) (by simp [flat_len insV 5 (fun _ => rfl) l])
  simpa using this

theorem test_mk {w : World} {vt vc : Value} {T : List (List Ins)} {fa : Bool} {c : List Atm} (ht : ThrAt w vt T) (hc : AtmAt w vc c) : TestAt w (.agg #[vt, .bool fa, vc]) T fa c vt vc := ⟨rfl, ht, hc⟩

end Go.Proofs.Ytomijmikkbhgmab

namespace Go.Proofs.Ytomijmikkbhgmab
open Go.RowKit

/-- In how many allowed candidates the condition holds, and in how many not. -/
def gdN (n : Nat) (c : List Atm) (L : List (Option (List Int))) : Nat := ((L.filterMap id).filter fun s => metB n c s).length
def bdN (n : Nat) (c : List Atm) (L : List (Option (List Int))) : Nat := ((L.filterMap id).filter fun s => !metB n c s).length
theorem gdN_none (n : Nat) (c : List Atm) (L : List (Option (List Int))) : gdN n c (L ++ [none]) = gdN n c L ∧ bdN n c (L ++ [none]) = bdN n c L := by
  unfold gdN bdN; rw [List.filterMap_append]; simp
theorem gdN_yes {n : Nat} {c : List Atm} {l : List Int} (h : metB n c l = true) (L : List (Option (List Int))) : gdN n c (L ++ [some l]) = gdN n c L + 1 ∧ bdN n c (L ++ [some l]) = bdN n c L := by
  unfold gdN bdN; rw [List.filterMap_append]; simp [h]
theorem gdN_no {n : Nat} {c : List Atm} {l : List Int} (h : metB n c l = false) (L : List (Option (List Int))) : gdN n c (L ++ [some l]) = gdN n c L ∧ bdN n c (L ++ [some l]) = bdN n c L + 1 := by
  unfold gdN bdN; rw [List.filterMap_append]; simp [h]
theorem gdN_le (n : Nat) (c : List Atm) (L : List (Option (List Int))) : gdN n c L ≤ L.length ∧ bdN n c L ≤ L.length := by
  unfold gdN bdN
  exact ⟨Nat.le_trans (List.length_filter_le _ _) (List.length_filterMap_le _ _), Nat.le_trans (List.length_filter_le _ _) (List.length_filterMap_le _ _)⟩

/-- A report. -/
def repV (g b : Nat) (fa : Bool) : Value := .agg #[.int .i64 (if g == 0 then 0 else if b == 0 then 2 else 1), .int .i64 g, .int .i64 b, .bool (if fa then b == 0 else decide (0 < g))]
def noRep : Value := .agg #[.int .i64 0, .int .i64 0, .int .i64 0, .bool false]
def verV (T : List (List Ins)) (c : List Atm) (fa : Bool) (al : Nat → Bool) : Value :=
  if (chk T c).1 == 0 then .tuple #[repV (gdN T.length c (optL al T (evsT T 0) (sizeN (evsT T 0)))) (bdN T.length c (optL al T (evsT T 0) (sizeN (evsT T 0)))) fa, .int .i64 0] else .tuple #[noRep, .int .i64 (chk T c).1]

/-- A report in a block of its own. -/
structure RepC (w : World) (R : Nat) (v : Int) (g b : Nat) (h : Bool) : Prop where
  c0 : w.cell? ⟨R, 0, none⟩ = some (.int .i64 v)
  c1 : w.cell? ⟨R, 1, none⟩ = some (.int .i64 g)
  c2 : w.cell? ⟨R, 2, none⟩ = some (.int .i64 b)
  c3 : w.cell? ⟨R, 3, none⟩ = some (.bool h)
  f0 : w.frozen? ⟨R, 0, none⟩ = false
  f1 : w.frozen? ⟨R, 1, none⟩ = false
  f2 : w.frozen? ⟨R, 2, none⟩ = false
  f3 : w.frozen? ⟨R, 3, none⟩ = false
theorem RepC.lt {w : World} {R : Nat} {v : Int} {g b : Nat} {h : Bool} (k : RepC w R v g b h) : R < w.heap.size := World.block_lt_of_cell? w _ k.c0
theorem RepC.keep {w w' : World} {R : Nat} {v : Int} {g b : Nat} {h : Bool} (k : RepC w R v g b h) (hb : Below w.heap.size w w') : RepC w' R v g b h :=
  ⟨keep_cell hb k.c0, keep_cell hb k.c1, keep_cell hb k.c2, keep_cell hb k.c3, (hb.frozen (p := ⟨R, 0, none⟩) k.lt).trans k.f0, (hb.frozen (p := ⟨R, 1, none⟩) k.lt).trans k.f1, (hb.frozen (p := ⟨R, 2, none⟩) k.lt).trans k.f2, (hb.frozen (p := ⟨R, 3, none⟩) k.lt).trans k.f3⟩

end Go.Proofs.Ytomijmikkbhgmab

namespace Go.Proofs.Ytomijmikkbhgmab

def stoI (loc val mode : Int) : Ins := ⟨0, loc, 0, val, mode⟩
def lodI (reg loc mode : Int) : Ins := ⟨2, loc, reg, 0, mode⟩
def fenI (mode : Int) : Ins := ⟨4, 0, 0, 0, mode⟩

/-- A test, and in how many allowed candidates its condition holds and does not. -/
structure Knw where
  T : List (List Ins)
  c : List Atm
  good : Nat
  bad : Nat

def bufK (bt : List Ins) (good : Nat) : Knw := ⟨[stoI 0 1 0 :: bt ++ [lodI 0 1 0], stoI 1 1 0 :: bt ++ [lodI 0 0 0]], [⟨0, 0, 0⟩, ⟨1, 0, 0⟩], good, 3⟩
def mesK (rel acq : Int) (good : Nat) : Knw := ⟨[[stoI 0 1 0, stoI 1 1 rel], [lodI 0 1 acq, lodI 1 0 0]], [⟨1, 0, 1⟩, ⟨1, 1, 0⟩], good, 3⟩
def earK (mode : Int) (good : Nat) : Knw := ⟨[[lodI 0 0 0, stoI 1 1 mode], [lodI 0 1 0, stoI 0 1 mode]], [⟨0, 0, 1⟩, ⟨1, 0, 1⟩], good, 3⟩
def apaK (bt : List Ins) (good : Nat) : Knw := ⟨[[stoI 0 1 0], [stoI 1 1 0], lodI 0 0 0 :: bt ++ [lodI 1 1 0], lodI 0 1 0 :: bt ++ [lodI 1 0 0]], [⟨2, 0, 1⟩, ⟨2, 1, 0⟩, ⟨3, 0, 1⟩, ⟨3, 1, 0⟩], good, 15⟩
def twiK : Knw := ⟨[[stoI 0 1 0], [lodI 0 0 0, lodI 1 0 0]], [⟨1, 0, 1⟩, ⟨1, 1, 0⟩], 0, 3⟩
def takK : Knw := ⟨[[⟨3, 0, 0, 1, 0⟩], [⟨3, 0, 0, 1, 0⟩]], [⟨0, 0, 0⟩, ⟨1, 0, 0⟩], 0, 2⟩

def tabK : List Knw := [bufK [] 1, bufK [fenI 0] 0, bufK [fenI 1] 1, bufK [fenI 2] 1, mesK 0 0 1, mesK 2 0 1, mesK 0 1 1, mesK 2 1 0, earK 0 1, earK 2 0, apaK [] 1, apaK [fenI 1] 0, apaK [fenI 0] 0, apaK [fenI 2] 1, twiK, takK]

def okK (k : Knw) : Bool := (chk k.T k.c).1 == 0 && (gdN k.T.length k.c (optL (fun n => alB k.T (evsT k.T 0) (exN (evsT k.T 0) n)) k.T (evsT k.T 0) (sizeN (evsT k.T 0))) == k.good && bdN k.T.length k.c (optL (fun n => alB k.T (evsT k.T 0) (exN (evsT k.T 0) n)) k.T (evsT k.T 0) (sizeN (evsT k.T 0))) == k.bad)

set_option maxRecDepth 100000 in
theorem tabK_ok : tabK.all okK = true := by kernel_rfl

end Go.Proofs.Ytomijmikkbhgmab
