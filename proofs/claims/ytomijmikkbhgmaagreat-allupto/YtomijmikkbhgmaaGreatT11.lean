import Derived.Test.YtomijmikkbhgmaaGreatRe
import Derived.Test.YtomijmikkbhgmaaGreatQi
import Derived.Test.YtomijmikkbhgmaaGreatT7
import Derived.Test.YtomijmikkbhgmaaGreatT2
import Derived.Deep.CutRange
import Derived.Deep.RegionWith
namespace Go.Proofs.YtomijmikkbhgmaaGreat
open Go.RowKit

/-- What isKept asks. -/
def kepB (l : List Ins) (a b : Evt) : Bool := fenB l a b || (modB a b || (mrkB a b || swapB a b))

set_option maxHeartbeats 2000000 in
theorem isKept_any (T : List (List Ins)) (hS : Short T) (vt : Value) (a b : Evt) (i pa pb : Nat) (l : List Ins) (ha : EvIn T a i pa l) (hb : EvIn T b i pb l) (w : World) (ht : ThrAt w vt T) :
    Calls Tryz.prog 139 #[vt, e4V a, e4V b] w fun e w' => e = .returned (.bool (kepB l a b)) ∧ Below w.heap.size w w' := by
  have hpa : pa < l.length := (List.getElem?_eq_some_iff.1 ha.l1).1
  have hpb : pb < l.length := (List.getElem?_eq_some_iff.1 hb.l1).1
  have HF : Hid (∀ w', Below w.heap.size w w' → Calls Tryz.prog 161 #[vt, e4V a, e4V b] w' fun e w'' => e = .returned (.bool (fenB l a b)) ∧ Below w'.heap.size w' w'') := fun w' hb' => isFenced_any T hS vt a b i pa pb l ha.th ha.pl hb.pl ha.l0 (by omega) (by omega) w' (ht.keep hb')
  have HM : Hid (∀ w', Below w.heap.size w w' → Calls Tryz.prog 162 #[vt, e4V a, e4V b] w' fun e w'' => e = .returned (.bool (modB a b)) ∧ Below w'.heap.size w' w'') := fun w' hb' => isModed_any T hS vt a b i pa i pb l l ha hb w' (ht.keep hb')
  have HK : Hid (∀ w', Calls Tryz.prog 163 #[e4V a, e4V b] w' fun e w'' => e = .returned (.bool (mrkB a b)) ∧ Below w'.heap.size w' w'') := fun w' => isMarked_any a b w'
  have HSW : Hid (∀ w', Calls Tryz.prog 137 #[e4V a, e4V b] w' fun e w'' => e = .returned (.bool (swapB a b)) ∧ Below w'.heap.size w' w'') := fun w' => isSwap_any a b w'
  have HB : Hid (kepB l a b = (fenB l a b || (modB a b || (mrkB a b || swapB a b)))) := rfl
  generalize kepB l a b = B at HB ⊢
  generalize fenB l a b = F at HF HB
  generalize modB a b = M at HM HB
  generalize mrkB a b = K at HK HB
  generalize swapB a b = S at HSW HB
  obtain ⟨_, aoT, bT, offT, capT, hvT, _⟩ := ht
  subst hvT
  clear ha hb hS hpa hpb
  unfold e4V at *
  have HX := box4_two w a b 75
  have hbw := below_two w (.cells #[.int .i64 a.thread, .int .i64 a.place, .int .i64 a.kind, .int .i64 a.loc] 75) (.cells #[.int .i64 b.thread, .int .i64 b.place, .int .i64 b.kind, .int .i64 b.loc] 75)
  go_enter Tryz.func139, Tryz.ntmps139
  go_wp2_with fail
  generalize hW : (w.alloc (.cells #[.int .i64 a.thread, .int .i64 a.place, .int .i64 a.kind, .int .i64 a.loc] 75)).alloc (.cells #[.int .i64 b.thread, .int .i64 b.place, .int .i64 b.kind, .int .i64 b.loc] 75) = W at HX hbw ⊢
  clear hW
  refine (HF.out W hbw).mono ?_
  rintro e w3 ⟨rfl, hb3⟩
  have hbw3 := below_more hbw hb3
  cases F
  · obtain ⟨a0, a1, a2, a3⟩ := HX.1.keep hb3
    obtain ⟨b0, b1, b2, b3⟩ := HX.2.keep hb3
    go_wp2_with fail
    refine (HM.out w3 hbw3).mono ?_
    rintro e w4 ⟨rfl, hb4⟩
    have hbw4 := below_more hbw3 hb4
    cases M
    · clear a0 a1 a2 a3 b0 b1 b2 b3
      obtain ⟨a0, a1, a2, a3⟩ := (HX.1.keep hb3).keep hb4
      obtain ⟨b0, b1, b2, b3⟩ := (HX.2.keep hb3).keep hb4
      go_wp2_with fail
      refine (HK.out w4).mono ?_
      rintro e w5 ⟨rfl, hb5⟩
      have hbw5 := below_more hbw4 hb5
      cases K
      · clear a0 a1 a2 a3 b0 b1 b2 b3
        obtain ⟨a0, a1, a2, a3⟩ := ((HX.1.keep hb3).keep hb4).keep hb5
        obtain ⟨b0, b1, b2, b3⟩ := ((HX.2.keep hb3).keep hb4).keep hb5
        go_wp2_with fail
        refine (HSW.out w5).mono ?_
        rintro e w6 ⟨rfl, hb6⟩
        have hbw6 := below_more hbw5 hb6
        go_wp2_with fail
        go_ret
        exact ⟨by rw [HB.out]; rfl, hbw6⟩
      · go_wp2_with fail
        go_ret
        exact ⟨by rw [HB.out]; rfl, hbw5⟩
    · go_wp2_with fail
      go_ret
      exact ⟨by rw [HB.out]; rfl, hbw4⟩
  · go_wp2_with fail
    go_ret
    exact ⟨by rw [HB.out]; rfl, hbw3⟩

/-- All events of the list are of instructions of the test. -/
def EvsIn (T : List (List Ins)) (E : List Evt) : Prop := ∀ y ∈ E, ∃ i p l, EvIn T y i p l

theorem srcG_hit {y z : Evt} (l : List Evt) (i : Nat) (a : Int) (h1 : (z.kind == 0) = true) (h2 : (z.thread == y.thread) = true) (h3 : (z.ins.reg == y.ins.reg) = true) : srcG y (z :: l) i a = srcG y l (i + 1) (i : Int) := by rw [srcG, h1, h2, h3]; rfl
theorem srcG_mis {y z : Evt} (l : List Evt) (i : Nat) (a : Int) (h : (z.kind == 0 && z.thread == y.thread && z.ins.reg == y.ins.reg) = false) : srcG y (z :: l) i a = srcG y l (i + 1) a := by rw [srcG, h]; rfl

set_option maxRecDepth 20000 in
set_option maxHeartbeats 2000000 in
theorem lastRead_any (T : List (List Ins)) (hS : Short T) (vt : Value) (E : List Evt) (hE : E.length ≤ 96) (hin : EvsIn T E) (b' : Nat) (hb' : b' ≤ E.length) (y : Evt) (v : Value) (w : World) (ht : ThrAt w vt T) (h : Ev4At w v E) :
    Calls Tryz.prog 74 #[vt, v, .int .i64 y.thread, .int .i64 y.ins.reg, .int .i64 b'] w fun e w' => e = .returned (.int .i64 (srcG y (E.take b') 0 (-1))) ∧ Below w.heap.size w w' := by
  have HT : Hid (ThrAt w vt T ∧ Short T ∧ EvsIn T E) := ⟨ht, hS, hin⟩
  obtain ⟨_, aoT, bT, offT, capT, hvT, _⟩ := ht
  subst hvT
  obtain ⟨ao, b, off, cap, hv, ha, _, hc⟩ := h
  subst hv
  have HC : Hid (∀ k y, E[k]? = some y → Ev4C w b (off + k * 4) y) := hc
  have HS : Hid (srcG y (E.take b') 0 (-1) = srcG y ((E.take b').drop 0) 0 (-1)) := rfl
  generalize srcG y (E.take b') 0 (-1) = S at HS ⊢
  clear hc hS hin
  go_enter Tryz.func74, Tryz.ntmps74
  go_wp2_with fail
  go_loopw [11, 17] (fun at' i wr => ∃ (k : Nat) (a : Int), k ≤ b' ∧ i = .int .i64 k ∧ at' = .int .i64 a ∧ Hid (S = srcG y ((E.take b').drop k) k a) ∧ Below w.heap.size w wr) (fun _ i _ => E.length - (intOf i).toNat)
  case atStart => exact ⟨0, -1, Nat.zero_le _, rfl, rfl, HS.out, Below.refl _ _⟩
  case round =>
    clear HS
    obtain ⟨k, a, hk, rfl, rfl, hn, hb⟩ := hrel
    by_cases hkl : E.length ≤ k
    · have HM : Hid (S = a) := hn.out.trans (by rw [drop_nil (l := E.take b') (k := k) (by rw [List.length_take]; omega)]; rfl)
      have hkI : (E.length : Int) ≤ (k : Int) := by omega
      clear hn
      go_wp2_with fail
      go_ret
      exact ⟨by rw [HM.out]; rfl, hb⟩
    obtain ⟨z, hz⟩ := get_of_lt (l := E) (k := k) (by omega)
    obtain rfl := ha (ne_nil (k := k) (by omega))
    obtain ⟨c0, c1, c2, c3⟩ := ev4C_keeps _ _ _ _ _ hb (HC.out k z hz)
    have hkE : (k : Int) < (E.length : Int) := by omega
    have m0 := World.block_lt_of_cell? _ _ c0
    simp only at m0
    by_cases hlt : k < b'
    · have hz2 : (E.take b')[k]? = some z := by rw [List.getElem?_take_of_lt hlt]; exact hz
      have HN : Hid (S = srcG y (z :: (E.take b').drop (k + 1)) k a) := hn.out.trans (by rw [drop_cons hz2])
      obtain ⟨iz, pz, lz, hzi⟩ := HT.out.2.2 z (List.mem_of_getElem? hz)
      have HZ : Hid (∀ w5, Below w.heap.size w w5 → Calls Tryz.prog 120 #[.slice aoT T.length capT, e4V z] w5 fun e w' => e = .returned (.agg #[.int .i64 z.ins.op, .int .i64 z.ins.loc, .int .i64 z.ins.reg, .int .i64 z.ins.val, .int .i64 z.ins.mode]) ∧ Below w5.heap.size w5 w') :=
        fun w5 hb5 => instrEv_any T HT.out.2.1 _ z iz pz lz hzi w5 (HT.out.1.keep hb5)
      have hkI : (k : Int) < (b' : Int) := by omega
      have hsz := hb.size
      clear hn hz hz2 hzi
      cases h2 : z.thread == y.thread
      · have h2' : (z.thread != y.thread) = true := by simp [bne, h2]
        have HM : Hid (S = srcG y ((E.take b').drop (k + 1)) (k + 1) a) := HN.out.trans (by rw [srcG_mis _ _ _ (by rw [h2]; simp)])
        go_wp2_with fail
        go_roundw
        case measure => simp [intOf]; omega
        case rel => exact ⟨k + 1, a, by omega, by go_num, rfl, HM.out, hb.alloc hsz _⟩
      · have h2' : (z.thread != y.thread) = false := by simp [bne, h2]
        cases h1 : z.kind == 0
        · have h1' : (z.kind != 0) = true := by simp [bne, h1]
          have HM : Hid (S = srcG y ((E.take b').drop (k + 1)) (k + 1) a) := HN.out.trans (by rw [srcG_mis _ _ _ (by rw [h1]; simp)])
          go_wp2_with fail
          go_roundw
          case measure => simp [intOf]; omega
          case rel => exact ⟨k + 1, a, by omega, by go_num, rfl, HM.out, hb.alloc hsz _⟩
        · have h1' : (z.kind != 0) = false := by simp [bne, h1]
          go_wp2_with fail
          refine (HZ.out _ (hb.alloc hsz _)).mono ?_
          rintro e w5 ⟨rfl, hb5⟩
          have hb6 := below_more (hb.alloc hsz (.cells #[.int .i64 z.thread, .int .i64 z.place, .int .i64 z.kind, .int .i64 z.loc] 75)) hb5
          cases h3 : z.ins.reg == y.ins.reg
          · have HM : Hid (S = srcG y ((E.take b').drop (k + 1)) (k + 1) a) := HN.out.trans (by rw [srcG_mis _ _ _ (by rw [h3]; simp)])
            go_wp2_with fail
            go_roundw
            case measure => simp [intOf]; omega
            case rel => exact ⟨k + 1, a, by omega, by go_num, rfl, HM.out, hb6.alloc hb6.size _⟩
          · have HM : Hid (S = srcG y ((E.take b').drop (k + 1)) (k + 1) (k : Int)) := HN.out.trans (srcG_hit _ _ _ h1 h2 h3)
            go_wp2_with fail
            go_roundw
            case measure => simp [intOf]; omega
            case rel => exact ⟨k + 1, k, by omega, by go_num, rfl, HM.out, hb6.alloc hb6.size _⟩
    · have HM : Hid (S = a) := hn.out.trans (by rw [drop_nil (l := E.take b') (k := k) (by rw [List.length_take]; omega)]; rfl)
      have hkI : (b' : Int) ≤ (k : Int) := by omega
      clear hn hz
      go_wp2_with fail
      go_ret
      exact ⟨by rw [HM.out]; rfl, hb.alloc hb.size _⟩

def cpyB (E : List Evt) (i j : Nat) (b : Evt) : Bool := b.ins.op == 1 && (i : Int) == srcG b (E.take j) 0 (-1)

set_option maxRecDepth 20000 in
set_option maxHeartbeats 2000000 in
theorem isCopied_any (T : List (List Ins)) (hS : Short T) (vt : Value) (E : List Evt) (hE : E.length ≤ 96) (hin : EvsIn T E) (i j : Nat) (b : Evt) (hj : E[j]? = some b) (v : Value) (w : World) (ht : ThrAt w vt T) (h : Ev4At w v E) :
    Calls Tryz.prog 140 #[vt, v, .int .i64 i, .int .i64 j] w fun e w' => e = .returned (.bool (cpyB E i j b)) ∧ Below w.heap.size w w' := by
  have hjl : j < E.length := (List.getElem?_eq_some_iff.1 hj).1
  have HT : Hid (ThrAt w vt T ∧ Ev4At w v E ∧ Short T ∧ EvsIn T E) := ⟨ht, h, hS, hin⟩
  obtain ⟨ib, pb, lb, hbi⟩ := hin b (List.mem_of_getElem? hj)
  have HZ : Hid (∀ w5, Below w.heap.size w w5 → Calls Tryz.prog 120 #[vt, e4V b] w5 fun e w' => e = .returned (.agg #[.int .i64 b.ins.op, .int .i64 b.ins.loc, .int .i64 b.ins.reg, .int .i64 b.ins.val, .int .i64 b.ins.mode]) ∧ Below w5.heap.size w5 w') :=
    fun w5 hb5 => instrEv_any T hS _ b ib pb lb hbi w5 (ht.keep hb5)
  have HL : Hid (∀ w5, Below w.heap.size w w5 → Calls Tryz.prog 74 #[vt, v, .int .i64 b.thread, .int .i64 b.ins.reg, .int .i64 j] w5 fun e w' => e = .returned (.int .i64 (srcG b (E.take j) 0 (-1))) ∧ Below w5.heap.size w5 w') :=
    fun w5 hb5 => lastRead_any T hS vt E hE hin j (Nat.le_of_lt hjl) b v w5 (ht.keep hb5) (h.keep hb5)
  have HB : Hid (cpyB E i j b = (b.ins.op == 1 && (i : Int) == srcG b (E.take j) 0 (-1))) := rfl
  generalize cpyB E i j b = B at HB ⊢
  generalize srcG b (E.take j) 0 (-1) = S at HL HB
  obtain ⟨_, aoT, bT, offT, capT, hvT, _⟩ := ht
  subst hvT
  obtain ⟨ao, b0, off, cap, hv, ha, _, hc⟩ := h
  subst hv
  obtain rfl := ha (ne_nil hjl)
  obtain ⟨c0, c1, c2, c3⟩ := hc j b hj
  have m0 := World.block_lt_of_cell? _ _ c0
  simp only at m0
  have hjI : (j : Int) < (E.length : Int) := by omega
  clear hc ha hS hin hbi hj
  go_enter Tryz.func140, Tryz.ntmps140
  go_wp2_with fail
  have HX := box4_new w b 75
  have hbw := below_alloc w (.cells #[.int .i64 b.thread, .int .i64 b.place, .int .i64 b.kind, .int .i64 b.loc] 75)
  refine (HZ.out _ hbw).mono ?_
  rintro e w3 ⟨rfl, hb3⟩
  have hbw3 := below_more hbw hb3
  obtain ⟨a0, a1, a2, a3⟩ := HX.keep hb3
  have m3 := (HX.keep hb3).lt
  clear c0 c1 c2 c3 m0
  cases h1 : b.ins.op == 1
  · have h1' : (b.ins.op != 1) = true := by simp [bne, h1]
    go_wp2_with fail
    go_ret
    exact ⟨by rw [HB.out, h1]; rfl, hbw3.alloc hbw3.size _⟩
  · have h1' : (b.ins.op != 1) = false := by simp [bne, h1]
    go_wp2_with fail
    refine (HL.out _ (hbw3.alloc hbw3.size _)).mono ?_
    rintro e w5 ⟨rfl, hb5⟩
    have hbw5 := below_more (hbw3.alloc hbw3.size (.cells #[.int .i64 b.ins.op, .int .i64 b.ins.loc, .int .i64 b.ins.reg, .int .i64 b.ins.val, .int .i64 b.ins.mode] 48)) hb5
    go_wp2_with fail
    go_ret
    exact ⟨by rw [HB.out, h1]; rfl, hbw5⟩

end Go.Proofs.YtomijmikkbhgmaaGreat

namespace Go.Proofs.YtomijmikkbhgmaaGreat
open Go.RowKit

set_option maxHeartbeats 1000000 in
theorem in_any (l : List Int) (x : Int) (v : Value) (w : World) (h : IntAt w v l) (hl : l.length ≤ 100000) :
    Calls Tryz.prog 108 #[v, .int .i64 x] w fun e w' => e = .returned (.bool (l.contains x)) ∧ w' = w := by
  obtain ⟨ao, b, off, cap, hv, ha, _, hc⟩ := h
  subst hv
  have HC : Hid (∀ k x, l[k]? = some x → IntC w b (off + k * 1) x) := hc
  have HB : Hid (l.contains x = (l.drop 0).contains x) := rfl
  generalize l.contains x = B at HB ⊢
  clear hc
  go_enter Tryz.func108, Tryz.ntmps108
  go_wp2_with fail
  go_loop [5] (fun i => ∃ k : Nat, k ≤ l.length ∧ i = .int .i64 k ∧ Hid (B = (l.drop k).contains x)) (fun i => l.length - (intOf i).toNat)
  case atStart => exact ⟨0, Nat.zero_le _, rfl, HB.out⟩
  case round =>
    clear HB
    obtain ⟨k, hk, rfl, hn⟩ := hrel
    by_cases hlt : k < l.length
    · obtain ⟨y, hy⟩ := get_of_lt hlt
      obtain rfl := ha (ne_nil hlt)
      have c0 := HC.out k y hy
      unfold IntC at c0
      rw [Nat.mul_one] at c0
      have hkI : (k : Int) < (l.length : Int) := by omega
      have HN : Hid (B = (y :: l.drop (k + 1)).contains x) := by rw [← drop_cons hy]; exact hn
      clear hn hy
      cases hxy : y == x
      · have HM : Hid (B = (l.drop (k + 1)).contains x) := HN.out.trans (by rw [List.contains_cons, Bool.beq_comm, hxy, Bool.false_or])
        clear HN
        go_wp2_with fail
        go_round
        case measure => simp [intOf]; omega
        case rel => exact ⟨k + 1, by omega, by go_num, HM.out⟩
      · have HM : Hid (B = true) := HN.out.trans (by rw [List.contains_cons, Bool.beq_comm, hxy, Bool.true_or])
        clear HN
        go_wp2_with fail
        go_ret
        exact ⟨by rw [HM.out]; rfl, rfl⟩
    · have HM : Hid (B = false) := hn.out.trans (by rw [drop_nil hlt]; rfl)
      clear hn
      go_wp2_with fail
      go_ret
      exact ⟨by rw [HM.out]; rfl, rfl⟩

theorem zip_get {α β : Type} {l : List α} {m : List β} {k : Nat} {a : α} {b : β} (h1 : l[k]? = some a) (h2 : m[k]? = some b) : (l.zip m)[k]? = some (a, b) := by
  rw [List.getElem?_zip_eq_some]; exact ⟨h1, h2⟩

/-- Has a list each entry of another one, and as many? -/
def shufB (l m : List Int) : Bool := l.length == m.length && m.all fun y => l.contains y

set_option maxHeartbeats 1000000 in
theorem shuffled_any (l m : List Int) (hm : m.length ≤ 100000) (u v : Value) (w : World) (hu : IntAt w u l) (hv : IntAt w v m) :
    Calls Tryz.prog 110 #[u, v] w fun e w' => e = .returned (.bool (shufB l m)) ∧ w' = w := by
  have HU : Hid (IntAt w u l) := hu
  obtain ⟨ao, b, off, cap, hv1, ha, _, hc⟩ := hu
  obtain ⟨ao2, b2, off2, cap2, hv2, ha2, _, hc2⟩ := hv
  subst hv1 hv2
  have HC : Hid (∀ k x, m[k]? = some x → IntC w b2 (off2 + k * 1) x) := hc2
  clear hc hc2
  by_cases hlen : l.length = m.length
  · have k0 : ((l.length : Int) != (m.length : Int)) = false := by simp [hlen]
    have HB : Hid (shufB l m = (m.drop 0).all fun y => l.contains y) := by show shufB l m = _; unfold shufB; simp [hlen]
    have HLL : Hid (l.length ≤ 100000) := by show l.length ≤ _; omega
    have HLEN : Hid (l.length = m.length) := hlen
    generalize shufB l m = B at HB ⊢
    clear hlen
    go_enter Tryz.func110, Tryz.ntmps110
    go_wp2_with fail
    go_loop [5] (fun i => ∃ k : Nat, k ≤ m.length ∧ i = .int .i64 k ∧ Hid (B = (m.drop k).all fun y => l.contains y)) (fun i => m.length - (intOf i).toNat)
    case atStart => exact ⟨0, Nat.zero_le _, rfl, HB.out⟩
    case round =>
      clear HB
      obtain ⟨k, hk, rfl, hn⟩ := hrel
      by_cases hlt : k < m.length
      · obtain ⟨y, hy⟩ := get_of_lt hlt
        obtain rfl := ha2 (ne_nil hlt)
        have c0 := HC.out k y hy
        unfold IntC at c0
        rw [Nat.mul_one] at c0
        have hkI : (k : Int) < (m.length : Int) := by omega
        have HN : Hid (B = (l.contains y && (m.drop (k + 1)).all fun y => l.contains y)) := hn.out.trans (by rw [drop_cons hy, List.all_cons])
        clear hn hy
        go_wp2_with fail
        refine (in_any l y _ _ HU.out HLL.out).mono ?_
        cases hly : l.contains y
        · have HM : Hid (B = false) := HN.out.trans (by rw [hly, Bool.false_and])
          rintro e w3 ⟨rfl, rfl⟩
          clear HN hly
          go_wp2_with fail
          go_ret
          exact ⟨by rw [HM.out]; rfl, rfl⟩
        · have HM : Hid (B = (m.drop (k + 1)).all fun y => l.contains y) := HN.out.trans (by rw [hly, Bool.true_and])
          rintro e w3 ⟨rfl, rfl⟩
          clear HN hly
          go_wp2_with fail
          go_round
          case measure => simp [intOf]; omega
          case rel => exact ⟨k + 1, by omega, by go_num, HM.out⟩
      · have HM : Hid (B = true) := hn.out.trans (by rw [drop_nil hlt]; rfl)
        clear hn
        go_wp2_with fail
        go_ret
        exact ⟨by rw [HM.out]; rfl, rfl⟩
  · have k0 : ((l.length : Int) != (m.length : Int)) = true := by simp; omega
    have HB : Hid (shufB l m = false) := by
      show shufB l m = false
      have : (l.length == m.length) = false := by simpa using hlen
      unfold shufB; rw [this, Bool.false_and]
    go_enter Tryz.func110, Tryz.ntmps110
    go_wp2_with fail
    go_ret
    exact ⟨by rw [HB.out]; rfl, rfl⟩

end Go.Proofs.YtomijmikkbhgmaaGreat
