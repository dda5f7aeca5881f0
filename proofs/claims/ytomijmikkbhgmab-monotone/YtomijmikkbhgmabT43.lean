import Derived.Test.YtomijmikkbhgmabT41
import Derived.Test.YtomijmikkbhgmabLt
import Derived.Test.YtomijmikkbhgmabT7
import Derived.Laws.OwnMore
import Derived.Test.YtomijmikkbhgmabT36
import Derived.Test.YtomijmikkbhgmabT39
import Derived.KernelRfl
namespace Go.Proofs.Ytomijmikkbhgmab
open Go.RowKit

theorem take_step {l m : List Int} {k : Nat} {x : Int} (h : l.take k = m.take k) (hx : l[k]? = some x) (hy : m[k]? = some x) : l.take (k + 1) = m.take (k + 1) := by
  rw [List.take_add_one, List.take_add_one, h, hx, hy]

set_option maxHeartbeats 1000000 in
theorem sameK_any (l m : List Int) (hl : l.length ≤ 100000) (_hm : m.length ≤ 100000) (u v : Value) (w : World) (hu : IntAt w u l) (hv : IntAt w v m) :
    Calls Try.prog 30 #[u, v] w fun e w' => e = .returned (.bool (l == m)) ∧ Below w.heap.size w w' := by
  obtain ⟨ao, b, off, cap, hv1, ha, _, hc⟩ := hu
  obtain ⟨ao2, b2, off2, cap2, hv2, ha2, _, hc2⟩ := hv
  subst hv1 hv2
  have HC : Hid ((∀ k x, l[k]? = some x → IntC w b (off + k * 1) x) ∧ (∀ k x, m[k]? = some x → IntC w b2 (off2 + k * 1) x)) := ⟨hc, hc2⟩
  clear hc hc2
  generalize hR : (l == m) = R
  have HR : Hid ((l == m) = R) := hR
  clear hR
  by_cases hlm : l.length = m.length
  · have k0 : ((l.length : Int) != (m.length : Int)) = false := by simp [hlm]
    have HL : Hid (l.length = m.length) := hlm
    clear hlm
    go_enter Try.func30, Try.ntmps30
    go_wp2_with fail
    go_loopw [5] (fun i wr => ∃ k : Nat, k ≤ l.length ∧ i = .int .i64 k ∧ Hid (l.take k = m.take k) ∧ Below w.heap.size w wr) (fun i _ => l.length - (intOf i).toNat)
    case atStart => exact ⟨0, Nat.zero_le _, rfl, by simp [Hid], Below.refl _ _⟩
    case round =>
      obtain ⟨k, hk, rfl, HK, hb⟩ := hrel
      by_cases hlt : k < l.length
      · have hlt2 : k < m.length := HL.out ▸ hlt
        obtain ⟨x, hx⟩ := get_of_lt hlt
        obtain ⟨y, hy⟩ := get_of_lt hlt2
        obtain rfl := ha (ne_nil hlt)
        obtain rfl := ha2 (ne_nil hlt2)
        have c0 := intC_keeps _ _ _ _ _ hb (HC.out.1 k x hx)
        have d0 := intC_keeps _ _ _ _ _ hb (HC.out.2 k y hy)
        unfold IntC at c0 d0
        rw [Nat.mul_one] at c0 d0
        have hkI : (k : Int) < (l.length : Int) := by omega
        have hkI2 : (k : Int) < (m.length : Int) := by omega
        by_cases hxy : x = y
        · subst hxy
          have HM : Hid (l.take (k + 1) = m.take (k + 1)) := take_step HK.out hx hy
          have n0 : (x != x) = false := by simp
          clear hx hy HK
          go_wp2_with fail
          go_quiet (fail)
          go_wp2_with fail
          go_roundw
          case measure => simp [intOf]; omega
          case rel => exact ⟨k + 1, by omega, by go_num, HM.out, below_drewN hb _⟩
        · have n0 : (x != y) = true := by simpa using hxy
          have hne : R = false := by
            rw [← HR.out]
            refine beq_eq_false_iff_ne.2 fun e => hxy ?_
            rw [e, hy] at hx
            exact (Option.some.inj hx).symm
          subst hne
          clear hx hy HK HR
          go_wp2_with fail
          go_quiet (fail)
          go_wp2_with fail
          go_ret
          exact ⟨rfl, below_drewN hb _⟩
      · have hkI : (l.length : Int) ≤ (k : Int) := by omega
        have he : R = true := by
          have h1 := HK.out
          rw [List.take_of_length_le (by omega), List.take_of_length_le (by have := HL.out; omega)] at h1
          rw [← HR.out, h1]
          simp
        subst he
        clear HK HR
        go_wp2_with fail
        go_ret
        exact ⟨rfl, hb⟩
  · have k0 : ((l.length : Int) != (m.length : Int)) = true := by simp; omega
    have hne : R = false := by
      rw [← HR.out]
      exact beq_eq_false_iff_ne.2 fun e => hlm (by rw [e])
    subst hne
    clear hlm HR
    go_enter Try.func30, Try.ntmps30
    go_wp2_with fail
    go_ret
    exact ⟨rfl, Below.refl _ _⟩

theorem cnOu_drop_no {K : List (List Int × Nat)} {k : Nat} {p : List Int × Nat} {t : List Int} (hp : K[k]? = some p) (h : (p.1 == t) = false) : cnOu (K.drop k) t = cnOu (K.drop (k + 1)) t := by
  rw [drop_cons hp, cnOu, if_neg (by simp [h]), Nat.zero_add]

set_option maxRecDepth 20000 in
set_option maxHeartbeats 2000000 in
theorem counted_any (n : Nat) (K : List (List Int × Nat)) (hf : KFit n K) (hn : n ≤ 1000) (t : List Int) (ht : t.length ≤ 1000) (u v : Value) (w : World) (hu : OutAt w u K) (hv : IntAt w v t) :
    Calls Try.prog 15 #[u, v] w fun e w' => e = .returned (.int .i64 (cnOu K t : Nat)) ∧ Below w.heap.size w w' := by
  obtain ⟨ao, b, off, cap, hu1, ha, _, hc⟩ := hu
  obtain ⟨a2, p2, e2⟩ := hv.form
  subst hu1 e2
  have hK := hf.few
  have HC : Hid ((∀ k p, K[k]? = some p → OutC w b (off + k * 2) p) ∧ KFit n K ∧ IntAt w (.slice a2 t.length p2) t) := ⟨hc, hf, hv⟩
  clear hc hf hv
  generalize hR : cnOu K t = R
  have HR : Hid (cnOu K t = R) := hR
  clear hR
  have HN : Hid (n ≤ 1000) := hn
  clear hn
  go_enter Try.func15, Try.ntmps15
  go_wp2_with fail
  go_loopw [5] (fun i wr => ∃ k : Nat, k ≤ K.length ∧ i = .int .i64 k ∧ Hid (cnOu (K.drop k) t = R) ∧ Below w.heap.size w wr) (fun i _ => K.length - (intOf i).toNat)
  case atStart => exact ⟨0, Nat.zero_le _, rfl, HR, Below.refl _ _⟩
  case round =>
    obtain ⟨k, hk, rfl, HK, hb⟩ := hrel
    by_cases hlt : k < K.length
    · obtain ⟨p, hp⟩ := get_of_lt hlt
      obtain rfl := ha (ne_nil hlt)
      have hmem := List.mem_of_getElem? hp
      obtain ⟨u1, c0, c1, hi1⟩ := outC_keeps _ _ _ _ _ hb (HC.out.1 k p hp)
      have hpl := HC.out.2.1.len p hmem
      obtain ⟨a1, p1, e1⟩ := hi1.form
      subst e1
      have HS : Hid (∀ w', Below wr.heap.size wr w' → Calls Try.prog 30 #[.slice a1 p.1.length p1, .slice a2 t.length p2] w' fun e w'' => e = .returned (.bool (p.1 == t)) ∧ Below w'.heap.size w' w'') := fun w' hb' => sameK_any p.1 t (by have := HN.out; omega) (by omega) _ _ w' (hi1.keep hb') ((HC.out.2.2.keep hb).keep hb')
      have hkI : (k : Int) < (K.length : Int) := by omega
      cases hs : p.1 == t
      · have HM : Hid (cnOu (K.drop (k + 1)) t = R) := (cnOu_drop_no hp hs).symm.trans HK.out
        rw [hs] at HS
        generalize p.1.length = ln at *
        generalize p.2 = cn at *
        clear hi1 hp hpl hs HK hmem
        go_wp2_with fail
        refine (HS.out _ (Below.refl _ _)).mono ?_
        rintro e w7 ⟨rfl, hb7⟩
        have hb8 := below_more hb hb7
        clear HS c0 c1 hb hb7
        go_wp2_with fail
        go_roundw
        case measure => simp [intOf]; omega
        case rel => exact ⟨k + 1, by omega, by go_num, HM.out, hb8⟩
      · have hcn : R = p.2 := by
          have h1 : p.1 = t := by simpa using hs
          rw [← HR.out, ← h1]
          exact cnOu_at HC.out.2.1.srt hmem
        rw [hs] at HS
        have HCN : Hid (R = p.2) := hcn
        generalize p.1.length = ln at *
        generalize p.2 = cn at *
        clear hi1 hp hpl hs HK hmem hcn HR
        go_wp2_with fail
        refine (HS.out _ (Below.refl _ _)).mono ?_
        rintro e w7 ⟨rfl, hb7⟩
        have hb8 := below_more hb hb7
        replace c1 := keep_cell hb7 c1
        clear HS c0 hb hb7
        go_wp2_with fail
        go_ret
        obtain rfl := HCN.out
        exact ⟨rfl, hb8⟩
    · have hkI : (K.length : Int) ≤ (k : Int) := by omega
      have he : R = 0 := by
        have h1 := HK.out
        rw [drop_nil (by omega)] at h1
        exact h1.symm
      subst he
      clear HK
      go_wp2_with fail
      go_ret
      exact ⟨rfl, hb⟩

end Go.Proofs.Ytomijmikkbhgmab

namespace Go.Proofs.Ytomijmikkbhgmab
open Go.RowKit

/-- Nothing turns from block B on. -/
def Same (B : Nat) (w w' : World) : Prop := w.heap.size ≤ w'.heap.size ∧ ∀ b : Nat, B ≤ b → b < w.heap.size → w'.heap[b]? = w.heap[b]?
theorem Same.refl (B : Nat) (w : World) : Same B w w := ⟨Nat.le_refl _, fun _ _ _ => rfl⟩
theorem Same.of {B : Nat} {w w1 w2 : World} (hb : Below w.heap.size w w1) (h : Same B w1 w2) : Same B w w2 := ⟨Nat.le_trans hb.size h.1, fun b h1 h2 => (h.2 b h1 (Nat.lt_of_lt_of_le h2 hb.size)).trans (hb.block b h2)⟩
theorem Same.set {B : Nat} {w w' : World} (h : Same B w w') {R o : Nat} (hR : R < B) (u : Value) : Same B w (w'.setCell ⟨R, o, none⟩ u) :=
  ⟨by simpa [World.setCell] using h.1, fun b h1 h2 => by rw [Below.heap_setCell _ _ _ _ (by show b ≠ R; omega)]; exact h.2 b h1 h2⟩

def InsS (B : Nat) (w : World) (u : Value) (l : List Ins) : Prop := ∀ w', Same B w w' → InsAt w' u l
def ThrS (B : Nat) (w : World) (u : Value) (T : List (List Ins)) : Prop := ∀ w', Same B w w' → ThrAt w' u T
def AtmS (B : Nat) (w : World) (u : Value) (c : List Atm) : Prop := ∀ w', Same B w w' → AtmAt w' u c
theorem InsS.keep {B : Nat} {w w1 : World} {u : Value} {l : List Ins} (h : InsS B w u l) (hb : Below w.heap.size w w1) : InsS B w1 u l := fun _ hs => h _ (Same.of hb hs)
theorem ThrS.keep {B : Nat} {w w1 : World} {u : Value} {T : List (List Ins)} (h : ThrS B w u T) (hb : Below w.heap.size w w1) : ThrS B w1 u T := fun _ hs => h _ (Same.of hb hs)
theorem AtmS.keep {B : Nat} {w w1 : World} {u : Value} {c : List Atm} (h : AtmS B w u c) (hb : Below w.heap.size w w1) : AtmS B w1 u c := fun _ hs => h _ (Same.of hb hs)

theorem InsS.of_own {B base : Nat} {w : World} {e : TypeId} {v : Value} {l : List Ins} (hl : l.length ≤ 100) (h : w.ownsRow base e 5 v l.length (l.flatMap insV)) (hB : B ≤ base) : InsS B w v l := fun w' hs =>
  owns_ins (by omega) (own_other h (fun b hb => hs.2 b (Nat.le_trans hB (h.lt b hb).1) (h.lt b hb).2))

theorem InsS.form {B : Nat} {w : World} {u : Value} {l : List Ins} (h : InsS B w u l) : ∃ ao cap, u = .slice ao l.length cap := by
  obtain ⟨_, ao, b, off, cap, hs⟩ := h w (Same.refl _ _)
  exact ⟨ao, cap, hs.hv⟩

/-- Rows of a literal. -/
theorem ThrS.lit {B : Nat} {w : World} {us : List Value} {Ls : List (List Ins)} {t : TypeId} (hB : B ≤ w.heap.size) (hlen : us.length = Ls.length) (hl : Ls.length ≤ 100) (h : ∀ (i : Nat) (l : List Ins), Ls[i]? = some l → ∃ u, us[i]? = some u ∧ InsS B w u l) :
    ThrS B (w.alloc (.cells us.toArray t)) (.slice (some ⟨w.heap.size, 0, none⟩) Ls.length Ls.length) Ls := by
  intro w' hs
  refine ⟨by omega, _, w.heap.size, 0, _, rfl, fun _ => rfl, fun h => by simp at h, fun k l hk => ?_⟩
  obtain ⟨u, h1, h2⟩ := h k l hk
  have hc : (w.alloc (.cells us.toArray t)).cell? ⟨w.heap.size, k, none⟩ = some u := by
    rw [cell_of_row _ _ k us.toArray t (0, 0) (heap_alloc_new w _)]
    simpa using h1
  refine ⟨u, ?_, h2 w' (Same.of (below_alloc w _) hs)⟩
  rw [Nat.zero_add, Nat.mul_one]
  exact cell_heap (hs.2 w.heap.size hB (by simp)) hc

theorem AtmS.lit {B : Nat} {w : World} {c : List Atm} {t : TypeId} (hB : B ≤ w.heap.size) (hl : c.length ≤ 100) :
    AtmS B (w.alloc (.cells (c.flatMap atmV).toArray t)) (.slice (some ⟨w.heap.size, 0, none⟩) c.length c.length) c := by
  intro w' hs
  refine ⟨by omega, _, w.heap.size, 0, _, rfl, fun _ => rfl, fun h => by simp at h, fun k x hk => ?_⟩
  have hc : ∀ j u, (atmV x)[j]? = some u → w'.cell? ⟨w.heap.size, 0 + k * 3 + j, none⟩ = some u := fun j u hj => by
    have hj3 : j < 3 := (List.getElem?_eq_some_iff.1 hj).1
    refine cell_heap (hs.2 w.heap.size hB (by simp)) ?_
    rw [cell_of_row _ _ _ (c.flatMap atmV).toArray t (0, 0) (heap_alloc_new w _)]
    have := flat_get atmV 3 (fun _ => rfl) c k j x hk hj3
    rw [Nat.zero_add]
    simpa [this] using hj
  exact ⟨hc 0 _ rfl, hc 1 _ rfl, hc 2 _ rfl⟩

theorem InsS.lit {B : Nat} {w : World} {l : List Ins} {t : TypeId} (hB : B ≤ w.heap.size) (hl : l.length ≤ 100) :
    InsS B (w.alloc (.cells (l.flatMap insV).toArray t)) (.slice (some ⟨w.heap.size, 0, none⟩) l.length l.length) l := by
  refine InsS.of_own (base := w.heap.size) (e := t) hl ?_ hB
  have := World.ownsRow_lit (base := w.heap.size) (e := t) (size := 5) w (l.flatMap insV).toArray l.length (Nat.le_refl _) (by unfold maxLen; omega) (by simp [flat_len insV 5 (fun _ => rfl) l])
  simpa using this

theorem test_mk {w : World} {vt vc : Value} {T : List (List Ins)} {fa : Bool} {c : List Atm} (ht : ThrAt w vt T) (hc : AtmAt w vc c) : TestAt w (.agg #[vt, .bool fa, vc]) T fa c vt vc := ⟨rfl, ht, hc⟩

end Go.Proofs.Ytomijmikkbhgmab

namespace Go.Proofs.Ytomijmikkbhgmab
open Go.RowKit

/-- In how many allowed candidates the condition holds, and in how many not. -/
def gdN (n : Nat) (c : List Atm) (L : List (Option (List Int))) : Nat := ((L.filterMap id).filter fun s => metB n c s).length
def bdN (n : Nat) (c : List Atm) (L : List (Option (List Int))) : Nat := ((L.filterMap id).filter fun s => !metB n c s).length
theorem gdN_none (n : Nat) (c : List Atm) (L : List (Option (List Int))) : gdN n c (L ++ [none]) = gdN n c L ∧ bdN n c (L ++ [none]) = bdN n c L := by
  unfold gdN bdN; rw [List.filterMap_append]; simp
theorem gdN_yes {n : Nat} {c : List Atm} {l : List Int} (h : metB n c l = true) (L : List (Option (List Int))) : gdN n c (L ++ [some l]) = gdN n c L + 1 ∧ bdN n c (L ++ [some l]) = bdN n c L := by
  unfold gdN bdN; rw [List.filterMap_append]; simp [h]
theorem gdN_no {n : Nat} {c : List Atm} {l : List Int} (h : metB n c l = false) (L : List (Option (List Int))) : gdN n c (L ++ [some l]) = gdN n c L ∧ bdN n c (L ++ [some l]) = bdN n c L + 1 := by
  unfold gdN bdN; rw [List.filterMap_append]; simp [h]
theorem gdN_le (n : Nat) (c : List Atm) (L : List (Option (List Int))) : gdN n c L ≤ L.length ∧ bdN n c L ≤ L.length := by
  unfold gdN bdN
  exact ⟨Nat.le_trans (List.length_filter_le _ _) (List.length_filterMap_le _ _), Nat.le_trans (List.length_filter_le _ _) (List.length_filterMap_le _ _)⟩

/-- A report. -/
def repV (g b : Nat) (fa : Bool) : Value := .agg #[.int .i64 (if g == 0 then 0 else if b == 0 then 2 else 1), .int .i64 g, .int .i64 b, .bool (if fa then b == 0 else decide (0 < g))]
def noRep : Value := .agg #[.int .i64 0, .int .i64 0, .int .i64 0, .bool false]
def verV (T : List (List Ins)) (c : List Atm) (fa : Bool) (al : Nat → Bool) : Value :=
  if (chk T c).1 == 0 then .tuple #[repV (gdN T.length c (optL al T (evsT T 0) (sizeN (evsT T 0)))) (bdN T.length c (optL al T (evsT T 0) (sizeN (evsT T 0)))) fa, .int .i64 0] else .tuple #[noRep, .int .i64 (chk T c).1]

/-- A report in a block of its own. -/
structure RepC (w : World) (R : Nat) (v : Int) (g b : Nat) (h : Bool) : Prop where
  c0 : w.cell? ⟨R, 0, none⟩ = some (.int .i64 v)
  c1 : w.cell? ⟨R, 1, none⟩ = some (.int .i64 g)
  c2 : w.cell? ⟨R, 2, none⟩ = some (.int .i64 b)
  c3 : w.cell? ⟨R, 3, none⟩ = some (.bool h)
  f0 : w.frozen? ⟨R, 0, none⟩ = false
  f1 : w.frozen? ⟨R, 1, none⟩ = false
  f2 : w.frozen? ⟨R, 2, none⟩ = false
  f3 : w.frozen? ⟨R, 3, none⟩ = false
theorem RepC.lt {w : World} {R : Nat} {v : Int} {g b : Nat} {h : Bool} (k : RepC w R v g b h) : R < w.heap.size := World.block_lt_of_cell? w _ k.c0
theorem RepC.keep {w w' : World} {R : Nat} {v : Int} {g b : Nat} {h : Bool} (k : RepC w R v g b h) (hb : Below w.heap.size w w') : RepC w' R v g b h :=
  ⟨keep_cell hb k.c0, keep_cell hb k.c1, keep_cell hb k.c2, keep_cell hb k.c3, (hb.frozen (p := ⟨R, 0, none⟩) k.lt).trans k.f0, (hb.frozen (p := ⟨R, 1, none⟩) k.lt).trans k.f1, (hb.frozen (p := ⟨R, 2, none⟩) k.lt).trans k.f2, (hb.frozen (p := ⟨R, 3, none⟩) k.lt).trans k.f3⟩

end Go.Proofs.Ytomijmikkbhgmab

namespace Go.Proofs.Ytomijmikkbhgmab

def stoI (loc val mode : Int) : Ins := ⟨0, loc, 0, val, mode⟩
def lodI (reg loc mode : Int) : Ins := ⟨2, loc, reg, 0, mode⟩
def fenI (mode : Int) : Ins := ⟨4, 0, 0, 0, mode⟩

/-- A test, and in how many allowed candidates its condition holds and does not. -/
structure Knw where
  T : List (List Ins)
  c : List Atm
  good : Nat
  bad : Nat

def bufK (bt : List Ins) (good : Nat) : Knw := ⟨[stoI 0 1 0 :: bt ++ [lodI 0 1 0], stoI 1 1 0 :: bt ++ [lodI 0 0 0]], [⟨0, 0, 0⟩, ⟨1, 0, 0⟩], good, 3⟩
def mesK (rel acq : Int) (good : Nat) : Knw := ⟨[[stoI 0 1 0, stoI 1 1 rel], [lodI 0 1 acq, lodI 1 0 0]], [⟨1, 0, 1⟩, ⟨1, 1, 0⟩], good, 3⟩
def earK (mode : Int) (good : Nat) : Knw := ⟨[[lodI 0 0 0, stoI 1 1 mode], [lodI 0 1 0, stoI 0 1 mode]], [⟨0, 0, 1⟩, ⟨1, 0, 1⟩], good, 3⟩
def apaK (bt : List Ins) (good : Nat) : Knw := ⟨[[stoI 0 1 0], [stoI 1 1 0], lodI 0 0 0 :: bt ++ [lodI 1 1 0], lodI 0 1 0 :: bt ++ [lodI 1 0 0]], [⟨2, 0, 1⟩, ⟨2, 1, 0⟩, ⟨3, 0, 1⟩, ⟨3, 1, 0⟩], good, 15⟩
def twiK : Knw := ⟨[[stoI 0 1 0], [lodI 0 0 0, lodI 1 0 0]], [⟨1, 0, 1⟩, ⟨1, 1, 0⟩], 0, 3⟩
def takK : Knw := ⟨[[⟨3, 0, 0, 1, 0⟩], [⟨3, 0, 0, 1, 0⟩]], [⟨0, 0, 0⟩, ⟨1, 0, 0⟩], 0, 2⟩

def tabK : List Knw := [bufK [] 1, bufK [fenI 0] 0, bufK [fenI 1] 1, bufK [fenI 2] 1, mesK 0 0 1, mesK 2 0 1, mesK 0 1 1, mesK 2 1 0, earK 0 1, earK 2 0, apaK [] 1, apaK [fenI 1] 0, apaK [fenI 0] 0, apaK [fenI 2] 1, twiK, takK]

def okK (k : Knw) : Bool := (chk k.T k.c).1 == 0 && (gdN k.T.length k.c (optL (fun n => alB k.T (evsT k.T 0) (exN (evsT k.T 0) n)) k.T (evsT k.T 0) (sizeN (evsT k.T 0))) == k.good && bdN k.T.length k.c (optL (fun n => alB k.T (evsT k.T 0) (exN (evsT k.T 0) n)) k.T (evsT k.T 0) (sizeN (evsT k.T 0))) == k.bad)

set_option maxRecDepth 100000 in
theorem tabK_ok : tabK.all okK = true := by kernel_rfl

end Go.Proofs.Ytomijmikkbhgmab
