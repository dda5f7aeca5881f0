import Derived.Test.YtomijmikkbhgmaaGreatT16
import Derived.Test.YtomijmikkbhgmaaGreatQi
import Derived.Test.YtomijmikkbhgmaaGreatT10
namespace Go.Proofs.YtomijmikkbhgmaaGreat
open Go.RowKit

/-- What isKept asks. -/
def kepB (l : List Ins) (a b : Evt) : Bool := fenB l a b || (modB a b || (mrkB a b || swapB a b))

set_option maxHeartbeats 2000000 in
theorem isKept_any (T : List (List Ins)) (hS : Short T) (vt : Value) (a b : Evt) (i pa pb : Nat) (l : List Ins) (ha : EvIn T a i pa l) (hb : EvIn T b i pb l) (w : World) (ht : ThrAt w vt T) :
    Calls Tryz.prog 139 #[vt, e4V a, e4V b] w fun e w' => e = .returned (.bool (kepB l a b)) ∧ Below w.heap.size w w' := by
  have hpa : pa < l.length := (List.getElem?_eq_some_iff.1 ha.l1).1
  have hpb : pb < l.length := (List.getElem?_eq_some_iff.1 hb.l1).1
  have HF : Hid (∀ w', Below w.heap.size w w' → Calls Tryz.prog 161 #[vt, e4V a, e4V b] w' fun e w'' => e = .returned (.bool (fenB l a b)) ∧ Below w'.heap.size w' w'') := fun w' hb' => isFenced_any T hS vt a b i pa pb l ha.th ha.pl hb.pl ha.l0 (by omega) (by omega) w' (ht.keep hb')
  have HM : Hid (∀ w', Below w.heap.size w w' → Calls Tryz.prog 162 #[vt, e4V a, e4V b] w' fun e w'' => e = .returned (.bool (modB a b)) ∧ Below w'.heap.size w' w'') := fun w' hb' => isModed_any T hS vt a b i pa i pb l l ha hb w' (ht.keep hb')
  have HK : Hid (∀ w', Calls Tryz.prog 163 #[e4V a, e4V b] w' fun e w'' => e = .returned (.bool (mrkB a b)) ∧ Below w'.heap.size w' w'') := fun w' => isMarked_any a b w'
  have HSW : Hid (∀ w', Calls Tryz.prog 137 #[e4V a, e4V b] w' fun e w'' => e = .returned (.bool (swapB a b)) ∧ Below w'.heap.size w' w'') := fun w' => isSwap_any a b w'
  have HB : Hid (kepB l a b = (fenB l a b || (modB a b || (mrkB a b || swapB a b)))) := rfl
  generalize kepB l a b = B at HB ⊢
  generalize fenB l a b = F at HF HB
  generalize modB a b = M at HM HB
  generalize mrkB a b = K at HK HB
  generalize swapB a b = S at HSW HB
  obtain ⟨_, aoT, bT, offT, capT, hvT, _⟩ := ht
  subst hvT
  clear ha hb hS hpa hpb
  unfold e4V at *
  have HX := box4_two w a b 75
  have hbw := below_two w (.cells #[.int .i64 a.thread, .int .i64 a.place, .int .i64 a.kind, .int .i64 a.loc] 75) (.cells #[.int .i64 b.thread, .int .i64 b.place, .int .i64 b.kind, .int .i64 b.loc] 75)
  go_enter Tryz.func139, Tryz.ntmps139
  go_wp2_with fail
  generalize hW : (w.alloc (.cells #[.int .i64 a.thread, .int .i64 a.place, .int .i64 a.kind, .int .i64 a.loc] 75)).alloc (.cells #[.int .i64 b.thread, .int .i64 b.place, .int .i64 b.kind, .int .i64 b.loc] 75) = W at HX hbw ⊢
  clear hW
  refine (HF.out W hbw).mono ?_
  rintro e w3 ⟨rfl, hb3⟩
  have hbw3 := below_more hbw hb3
  cases F
  · obtain ⟨a0, a1, a2, a3⟩ := HX.1.keep hb3
    obtain ⟨b0, b1, b2, b3⟩ := HX.2.keep hb3
    go_wp2_with fail
    refine (HM.out w3 hbw3).mono ?_
    rintro e w4 ⟨rfl, hb4⟩
    have hbw4 := below_more hbw3 hb4
    cases M
    · clear a0 a1 a2 a3 b0 b1 b2 b3
      obtain ⟨a0, a1, a2, a3⟩ := (HX.1.keep hb3).keep hb4
      obtain ⟨b0, b1, b2, b3⟩ := (HX.2.keep hb3).keep hb4
      go_wp2_with fail
      refine (HK.out w4).mono ?_
      rintro e w5 ⟨rfl, hb5⟩
      have hbw5 := below_more hbw4 hb5
      cases K
      · clear a0 a1 a2 a3 b0 b1 b2 b3
        obtain ⟨a0, a1, a2, a3⟩ := ((HX.1.keep hb3).keep hb4).keep hb5
        obtain ⟨b0, b1, b2, b3⟩ := ((HX.2.keep hb3).keep hb4).keep hb5
        go_wp2_with fail
        refine (HSW.out w5).mono ?_
        rintro e w6 ⟨rfl, hb6⟩
        have hbw6 := below_more hbw5 hb6
        go_wp2_with fail
        go_ret
        exact ⟨by rw [HB.out]; rfl, hbw6⟩
      · go_wp2_with fail
        go_ret
        exact ⟨by rw [HB.out]; rfl, hbw5⟩
    · go_wp2_with fail
      go_ret
      exact ⟨by rw [HB.out]; rfl, hbw4⟩
  · go_wp2_with fail
    go_ret
    exact ⟨by rw [HB.out]; rfl, hbw3⟩

/-- All events of the list are of instructions of the test. -/
def EvsIn (T : List (List Ins)) (E : List Evt) : Prop := ∀ y ∈ E, ∃ i p l, EvIn T y i p l

theorem srcG_hit {y z : Evt} (l : List Evt) (i : Nat) (a : Int) (h1 : (z.kind == 0) = true) (h2 : (z.thread == y.thread) = true) (h3 : (z.ins.reg == y.ins.reg) = true) : srcG y (z :: l) i a = srcG y l (i + 1) (i : Int) := by rw [srcG, h1, h2, h3]; rfl
theorem srcG_mis {y z : Evt} (l : List Evt) (i : Nat) (a : Int) (h : (z.kind == 0 && z.thread == y.thread && z.ins.reg == y.ins.reg) = false) : srcG y (z :: l) i a = srcG y l (i + 1) a := by rw [srcG, h]; rfl

set_option maxRecDepth 20000 in
set_option maxHeartbeats 2000000 in
theorem lastRead_any (T : List (List Ins)) (hS : Short T) (vt : Value) (E : List Evt) (hE : E.length ≤ 96) (hin : EvsIn T E) (b' : Nat) (hb' : b' ≤ E.length) (y : Evt) (v : Value) (w : World) (ht : ThrAt w vt T) (h : Ev4At w v E) :
    Calls Tryz.prog 74 #[vt, v, .int .i64 y.thread, .int .i64 y.ins.reg, .int .i64 b'] w fun e w' => e = .returned (.int .i64 (srcG y (E.take b') 0 (-1))) ∧ Below w.heap.size w w' := by
  have HT : Hid (ThrAt w vt T ∧ Short T ∧ EvsIn T E) := ⟨ht, hS, hin⟩
  obtain ⟨_, aoT, bT, offT, capT, hvT, _⟩ := ht
  subst hvT
  obtain ⟨ao, b, off, cap, hv, ha, _, hc⟩ := h
  subst hv
  have HC : Hid (∀ k y, E[k]? = some y → Ev4C w b (off + k * 4) y) := hc
  have HS : Hid (srcG y (E.take b') 0 (-1) = srcG y ((E.take b').drop 0) 0 (-1)) := rfl
  generalize srcG y (E.take b') 0 (-1) = S at HS ⊢
  clear hc hS hin
  go_enter Tryz.func74, Tryz.ntmps74
  go_wp2_with fail
  go_loopw [11, 17] (fun at' i wr => ∃ (k : Nat) (a : Int), k ≤ b' ∧ i = .int .i64 k ∧ at' = .int .i64 a ∧ Hid (S = srcG y ((E.take b').drop k) k a) ∧ Below w.heap.size w wr) (fun _ i _ => E.length - (intOf i).toNat)
  case atStart => exact ⟨0, -1, Nat.zero_le _, rfl, rfl, HS.out, Below.refl _ _⟩
  case round =>
    clear HS
    obtain ⟨k, a, hk, rfl, rfl, hn, hb⟩ := hrel
    by_cases hkl : E.length ≤ k
    · have HM : Hid (S = a) := hn.out.trans (by rw [drop_nil (l := E.take b') (k := k) (by rw [List.length_take]; omega)]; rfl)
      have hkI : (E.length : Int) ≤ (k : Int) := by omega
      clear hn
      go_wp2_with fail
      go_ret
      exact ⟨by rw [HM.out]; rfl, hb⟩
    obtain ⟨z, hz⟩ := get_of_lt (l := E) (k := k) (by omega)
    obtain rfl := ha (ne_nil (k := k) (by omega))
    obtain ⟨c0, c1, c2, c3⟩ := ev4C_keeps _ _ _ _ _ hb (HC.out k z hz)
    have hkE : (k : Int) < (E.length : Int) := by omega
    have m0 := World.block_lt_of_cell? _ _ c0
    simp only at m0
    by_cases hlt : k < b'
    · have hz2 : (E.take b')[k]? = some z := by rw [List.getElem?_take_of_lt hlt]; exact hz
      have HN : Hid (S = srcG y (z :: (E.take b').drop (k + 1)) k a) := hn.out.trans (by rw [drop_cons hz2])
      obtain ⟨iz, pz, lz, hzi⟩ := HT.out.2.2 z (List.mem_of_getElem? hz)
      have HZ : Hid (∀ w5, Below w.heap.size w w5 → Calls Tryz.prog 120 #[.slice aoT T.length capT, e4V z] w5 fun e w' => e = .returned (.agg #[.int .i64 z.ins.op, .int .i64 z.ins.loc, .int .i64 z.ins.reg, .int .i64 z.ins.val, .int .i64 z.ins.mode]) ∧ Below w5.heap.size w5 w') :=
        fun w5 hb5 => instrEv_any T HT.out.2.1 _ z iz pz lz hzi w5 (HT.out.1.keep hb5)
      have hkI : (k : Int) < (b' : Int) := by omega
      have hsz := hb.size
      clear hn hz hz2 hzi
      cases h2 : z.thread == y.thread
      · have h2' : (z.thread != y.thread) = true := by simp [bne, h2]
        have HM : Hid (S = srcG y ((E.take b').drop (k + 1)) (k + 1) a) := HN.out.trans (by rw [srcG_mis _ _ _ (by rw [h2]; simp)])
        go_wp2_with fail
        go_roundw
        case measure => simp [intOf]; omega
        case rel => exact ⟨k + 1, a, by omega, by go_num, rfl, HM.out, hb.alloc hsz _⟩
      · have h2' : (z.thread != y.thread) = false := by simp [bne, h2]
        cases h1 : z.kind == 0
        · have h1' : (z.kind != 0) = true := by simp [bne, h1]
          have HM : Hid (S = srcG y ((E.take b').drop (k + 1)) (k + 1) a) := HN.out.trans (by rw [srcG_mis _ _ _ (by rw [h1]; simp)])
          go_wp2_with fail
          go_roundw
          case measure => simp [intOf]; omega
          case rel => exact ⟨k + 1, a, by omega, by go_num, rfl, HM.out, hb.alloc hsz _⟩
        · have h1' : (z.kind != 0) = false := by simp [bne, h1]
          go_wp2_with fail
          refine (HZ.out _ (hb.alloc hsz _)).mono ?_
          rintro e w5 ⟨rfl, hb5⟩
          have hb6 := below_more (hb.alloc hsz (.cells #[.int .i64 z.thread, .int .i64 z.place, .int .i64 z.kind, .int .i64 z.loc] 75)) hb5
          cases h3 : z.ins.reg == y.ins.reg
          · have HM : Hid (S = srcG y ((E.take b').drop (k + 1)) (k + 1) a) := HN.out.trans (by rw [srcG_mis _ _ _ (by rw [h3]; simp)])
            go_wp2_with fail
            go_roundw
            case measure => simp [intOf]; omega
            case rel => exact ⟨k + 1, a, by omega, by go_num, rfl, HM.out, hb6.alloc hb6.size _⟩
          · have HM : Hid (S = srcG y ((E.take b').drop (k + 1)) (k + 1) (k : Int)) := HN.out.trans (srcG_hit _ _ _ h1 h2 h3)
            go_wp2_with fail
            go_roundw
            case measure => simp [intOf]; omega
            case rel => exact ⟨k + 1, k, by omega, by go_num, rfl, HM.out, hb6.alloc hb6.size _⟩
    · have HM : Hid (S = a) := hn.out.trans (by rw [drop_nil (l := E.take b') (k := k) (by rw [List.length_take]; omega)]; rfl)
      have hkI : (b' : Int) ≤ (k : Int) := by omega
      clear hn hz
      go_wp2_with fail
      go_ret
      exact ⟨by rw [HM.out]; rfl, hb.alloc hb.size _⟩

def cpyB (E : List Evt) (i j : Nat) (b : Evt) : Bool := b.ins.op == 1 && (i : Int) == srcG b (E.take j) 0 (-1)

set_option maxRecDepth 20000 in
set_option maxHeartbeats 2000000 in
theorem isCopied_any (T : List (List Ins)) (hS : Short T) (vt : Value) (E : List Evt) (hE : E.length ≤ 96) (hin : EvsIn T E) (i j : Nat) (b : Evt) (hj : E[j]? = some b) (v : Value) (w : World) (ht : ThrAt w vt T) (h : Ev4At w v E) :
    Calls Tryz.prog 140 #[vt, v, .int .i64 i, .int .i64 j] w fun e w' => e = .returned (.bool (cpyB E i j b)) ∧ Below w.heap.size w w' := by
  have hjl : j < E.length := (List.getElem?_eq_some_iff.1 hj).1
  have HT : Hid (ThrAt w vt T ∧ Ev4At w v E ∧ Short T ∧ EvsIn T E) := ⟨ht, h, hS, hin⟩
  obtain ⟨ib, pb, lb, hbi⟩ := hin b (List.mem_of_getElem? hj)
  have HZ : Hid (∀ w5, Below w.heap.size w w5 → Calls Tryz.prog 120 #[vt, e4V b] w5 fun e w' => e = .returned (.agg #[.int .i64 b.ins.op, .int .i64 b.ins.loc, .int .i64 b.ins.reg, .int .i64 b.ins.val, .int .i64 b.ins.mode]) ∧ Below w5.heap.size w5 w') :=
    fun w5 hb5 => instrEv_any T hS _ b ib pb lb hbi w5 (ht.keep hb5)
  have HL : Hid (∀ w5, Below w.heap.size w w5 → Calls Tryz.prog 74 #[vt, v, .int .i64 b.thread, .int .i64 b.ins.reg, .int .i64 j] w5 fun e w' => e = .returned (.int .i64 (srcG b (E.take j) 0 (-1))) ∧ Below w5.heap.size w5 w') :=
    fun w5 hb5 => lastRead_any T hS vt E hE hin j (Nat.le_of_lt hjl) b v w5 (ht.keep hb5) (h.keep hb5)
  have HB : Hid (cpyB E i j b = (b.ins.op == 1 && (i : Int) == srcG b (E.take j) 0 (-1))) := rfl
  generalize cpyB E i j b = B at HB ⊢
  generalize srcG b (E.take j) 0 (-1) = S at HL HB
  obtain ⟨_, aoT, bT, offT, capT, hvT, _⟩ := ht
  subst hvT
  obtain ⟨ao, b0, off, cap, hv, ha, _, hc⟩ := h
  subst hv
  obtain rfl := ha (ne_nil hjl)
  obtain ⟨c0, c1, c2, c3⟩ := hc j b hj
  have m0 := World.block_lt_of_cell? _ _ c0
  simp only at m0
  have hjI : (j : Int) < (E.length : Int) := by omega
  clear hc ha hS hin hbi hj
  go_enter Tryz.func140, Tryz.ntmps140
  go_wp2_with fail
  have HX := box4_new w b 75
  have hbw := below_alloc w (.cells #[.int .i64 b.thread, .int .i64 b.place, .int .i64 b.kind, .int .i64 b.loc] 75)
  refine (HZ.out _ hbw).mono ?_
  rintro e w3 ⟨rfl, hb3⟩
  have hbw3 := below_more hbw hb3
  obtain ⟨a0, a1, a2, a3⟩ := HX.keep hb3
  have m3 := (HX.keep hb3).lt
  clear c0 c1 c2 c3 m0
  cases h1 : b.ins.op == 1
  · have h1' : (b.ins.op != 1) = true := by simp [bne, h1]
    go_wp2_with fail
    go_ret
    exact ⟨by rw [HB.out, h1]; rfl, hbw3.alloc hbw3.size _⟩
  · have h1' : (b.ins.op != 1) = false := by simp [bne, h1]
    go_wp2_with fail
    refine (HL.out _ (hbw3.alloc hbw3.size _)).mono ?_
    rintro e w5 ⟨rfl, hb5⟩
    have hbw5 := below_more (hbw3.alloc hbw3.size (.cells #[.int .i64 b.ins.op, .int .i64 b.ins.loc, .int .i64 b.ins.reg, .int .i64 b.ins.val, .int .i64 b.ins.mode] 48)) hb5
    go_wp2_with fail
    go_ret
    exact ⟨by rw [HB.out, h1]; rfl, hbw5⟩

end Go.Proofs.YtomijmikkbhgmaaGreat

namespace Go.Proofs.YtomijmikkbhgmaaGreat
open Go.RowKit

set_option maxRecDepth 20000 in
set_option maxHeartbeats 4000000 in
theorem valueOf_any (T : List (List Ins)) (hS : Short T) (vt : Value) (E : List Evt) (hE : E.length ≤ 96) (hin : EvsIn T E) (F : List Int) (hF : F.length = E.length) (hr : ∀ f ∈ F, EvI E.length f) (i : Int) (hi : EvI E.length i) (v vf : Value) (w : World) (ht : ThrAt w vt T) (h : Ev4At w v E) (hf : IntAt w vf F) :
    Calls Tryz.prog 75 #[vt, v, vf, .int .i64 i] w fun e w' => e = .returned (.int .i64 (valN E (fun j => F.getD j 0) E.length i)) ∧ Below w.heap.size w w' := by
  have HT : Hid (ThrAt w vt T ∧ Short T ∧ EvsIn T E) := ⟨ht, hS, hin⟩
  have HLR : Hid (∀ (j : Nat) (y : Evt) (w5 : World), j < E.length → Below w.heap.size w w5 → Calls Tryz.prog 74 #[vt, v, .int .i64 y.thread, .int .i64 y.ins.reg, .int .i64 j] w5 fun e w' => e = .returned (.int .i64 (srcG y (E.take j) 0 (-1))) ∧ Below w5.heap.size w5 w') := fun j y w5 hj hb => lastRead_any T hS vt E hE hin j (Nat.le_of_lt hj) y v w5 (ht.keep hb) (h.keep hb)
  have HSE : Hid (∀ (k : Nat) (y : Evt), k < E.length → EvI E.length (srcG y (E.take k) 0 (-1))) := fun k y hk => by
    rcases srcG_range y (E.take k) 0 (-1) (.inl rfl) with h | ⟨a, h1, h2⟩
    · exact .inl h
    · exact .inr ⟨a, h1, by rw [List.length_take] at h2; omega⟩
  obtain ⟨_, aoT, bT, offT, capT, hvT, _⟩ := ht
  obtain ⟨ao, b, off, cap, hv, ha, _, hc⟩ := h
  obtain ⟨aof, bf, offf, capf, hvf, haf, _, hcf⟩ := hf
  subst hv hvT hvf
  rw [hF]
  have HC : Hid (∀ k y, E[k]? = some y → Ev4C w b (off + k * 4) y) := hc
  have HFC : Hid (∀ k x, F[k]? = some x → w.cell? ⟨bf, offf + k, none⟩ = some (.int .i64 x)) := fun k x hx => by
    have := hcf k x hx
    unfold IntC at this
    rw [Nat.mul_one] at this; exact this
  have HFI : Hid (F.length = E.length ∧ ∀ f ∈ F, EvI E.length f) := ⟨hF, hr⟩
  have HVN : Hid (∀ (d : Nat) (i : Int), i < 0 → valN E (fun j => F.getD j 0) d i = 0) := fun d i hi => valN_neg _ _ _ hi
  have HV0 : Hid (∀ i : Int, valN E (fun j => F.getD j 0) 0 i = 0) := fun i => rfl
  have HVR : Hid (∀ (d k : Nat) (y : Evt) (f : Int), E[k]? = some y → F[k]? = some f → (y.kind == 0) = true → valN E (fun j => F.getD j 0) (d + 1) (k : Int) = valN E (fun j => F.getD j 0) d f) := fun d k y f hk hf hk0 => by rw [valN_read hk hk0, List.getD, hf]; rfl
  have HVC : Hid (∀ (d k : Nat) (y : Evt), E[k]? = some y → (y.kind == 0) = false → (y.ins.op == 1) = true → valN E (fun j => F.getD j 0) (d + 1) (k : Int) = valN E (fun j => F.getD j 0) d (srcG y (E.take k) 0 (-1))) := fun d k y hk h1 h2 => valN_copy hk h1 h2
  have HVE : Hid (∀ (d k : Nat) (y : Evt), E[k]? = some y → (y.kind == 0) = false → (y.ins.op == 1) = false → valN E (fun j => F.getD j 0) (d + 1) (k : Int) = y.ins.val) := fun d k y hk h1 h2 => valN_else hk h1 h2
  generalize hVV : (fun j => F.getD j 0) = S at HVN HV0 HVR HVC HVE ⊢
  generalize hBB : valN E S E.length i = B
  have HB : Hid (B = valN E S (E.length - 0) i) := hBB.symm
  clear hBB
  clear hc hcf hS hin hr hF hVV
  go_enter Tryz.func75, Tryz.ntmps75
  go_wp2_with fail
  go_loopw [9, 10] (fun at' s wr => ∃ (a : Int) (k : Nat), k ≤ E.length ∧ s = .int .i64 k ∧ at' = .int .i64 a ∧ Hid (B = valN E S (E.length - k) a ∧ EvI E.length a) ∧ Below w.heap.size w wr) (fun _ s _ => E.length - (intOf s).toNat)
  case atStart => exact ⟨i, 0, Nat.zero_le _, rfl, rfl, ⟨HB.out, hi⟩, Below.refl _ _⟩
  case round =>
    clear HB
    obtain ⟨a, k, hk, rfl, rfl, hn, hb⟩ := hrel
    by_cases hlt : k < E.length
    · have hkI : (k : Int) < (E.length : Int) := by omega
      obtain ⟨d, hd⟩ : ∃ d, E.length - k = d + 1 := ⟨E.length - k - 1, by omega⟩
      have hd2 : E.length - (k + 1) = d := by omega
      have HN : Hid (B = valN E S (d + 1) a ∧ EvI E.length a) := by rw [← hd]; exact hn
      clear hn
      rcases HN.out.2 with ha1 | ⟨j, ha1, hj⟩
      · have HM : Hid (B = 0) := HN.out.1.trans (HVN.out _ _ (by omega))
        subst ha1
        clear HN
        go_wp2_with fail
        go_ret
        exact ⟨by rw [HM.out]; rfl, hb⟩
      · subst ha1
        obtain ⟨y, hy⟩ := get_of_lt hj
        obtain ⟨f, hf⟩ := get_of_lt (l := F) (k := j) (by have := HFI.out.1; omega)
        obtain rfl := ha (ne_nil hj)
        obtain rfl := haf (ne_nil (k := j) (by have := HFI.out.1; omega))
        obtain ⟨c0, c1, c2, c3⟩ := ev4C_keeps _ _ _ _ _ hb (HC.out j y hy)
        have f0 := keep_cell hb (HFC.out j f hf)
        have m0 := World.block_lt_of_cell? _ _ c0
        have m1 := World.block_lt_of_cell? _ _ f0
        simp only at m0 m1
        have hjI : (j : Int) < (E.length : Int) := by omega
        have hj0 : ¬ ((E.length : Int) ≤ (j : Int)) := by omega
        have hj1 : decide ((j : Int) < 0) = false := by simp
        cases hk0 : y.kind == 0
        · obtain ⟨iz, pz, lz, hzi⟩ := HT.out.2.2 y (List.mem_of_getElem? hy)
          have HZ : Hid (∀ w5, Below w.heap.size w w5 → Calls Tryz.prog 120 #[.slice aoT T.length capT, e4V y] w5 fun e w' => e = .returned (.agg #[.int .i64 y.ins.op, .int .i64 y.ins.loc, .int .i64 y.ins.reg, .int .i64 y.ins.val, .int .i64 y.ins.mode]) ∧ Below w5.heap.size w5 w') :=
            fun w5 hb5 => instrEv_any T HT.out.2.1 _ y iz pz lz hzi w5 (HT.out.1.keep hb5)
          have HL1 : Hid (∀ w5, Below w.heap.size w w5 → Calls Tryz.prog 74 #[.slice aoT T.length capT, .slice (some ⟨b, off, none⟩) E.length cap, .int .i64 y.thread, .int .i64 y.ins.reg, .int .i64 j] w5 fun e w' => e = .returned (.int .i64 (srcG y (E.take j) 0 (-1))) ∧ Below w5.heap.size w5 w') := fun w5 hb5 => HLR.out j y w5 hj hb5
          have hsz := hb.size
          cases ho : y.ins.op == 1
          · have ho' : (y.ins.op != 1) = true := by simp [bne, ho]
            have HM : Hid (B = y.ins.val) := HN.out.1.trans (HVE.out d j y hy hk0 ho)
            clear HN HL1 hzi hy hf
            go_wp2_with fail
            refine (HZ.out _ hb).mono ?_
            rintro e w5 ⟨rfl, hb5⟩
            have hb6 := below_more hb hb5
            go_wp2_with fail
            go_ret
            exact ⟨by rw [HM.out]; rfl, hb6.alloc hb6.size _⟩
          · have ho' : (y.ins.op != 1) = false := by simp [bne, ho]
            have HM : Hid (B = valN E S d (srcG y (E.take j) 0 (-1)) ∧ EvI E.length (srcG y (E.take j) 0 (-1))) := ⟨HN.out.1.trans (HVC.out d j y hy hk0 ho), HSE.out j y hj⟩
            generalize srcG y (E.take j) 0 (-1) = sg at HM HL1
            clear HN hzi hy hf
            go_wp2_with fail
            refine (HZ.out _ hb).mono ?_
            rintro e w5 ⟨rfl, hb5⟩
            have hb6 := below_more hb hb5
            have hb7 := hb6.alloc hb6.size (.cells #[.int .i64 y.ins.op, .int .i64 y.ins.loc, .int .i64 y.ins.reg, .int .i64 y.ins.val, .int .i64 y.ins.mode] 48)
            have hb57 := below_more hb5 (below_alloc w5 (.cells #[.int .i64 y.ins.op, .int .i64 y.ins.loc, .int .i64 y.ins.reg, .int .i64 y.ins.val, .int .i64 y.ins.mode] 48))
            have d0 := keep_cell hb57 c0
            have d1 : (w5.alloc (.cells #[.int .i64 y.ins.op, .int .i64 y.ins.loc, .int .i64 y.ins.reg, .int .i64 y.ins.val, .int .i64 y.ins.mode] 48)).cell? ⟨w5.heap.size, 2, none⟩ = some (.int .i64 y.ins.reg) := by simp
            clear c0 c1 c2 c3 f0
            go_wp2_with fail
            generalize w5.alloc (.cells #[.int .i64 y.ins.op, .int .i64 y.ins.loc, .int .i64 y.ins.reg, .int .i64 y.ins.val, .int .i64 y.ins.mode] 48) = W7 at hb7 hb57 d0 d1 ⊢
            replace d0 := grown_cell d0
            replace d1 := grown_cell d1
            have hne := grw_some W7
            refine wp_region_grown (by kernel_rfl) (by kernel_rfl) ?_
            repeat (go_big_quiet_step ((go_at_call 74; exact grown_call (HL1.out _ (below_more hb7 (Grw.low _))))))
            refine wpQuiet_nil ?_
            intro w8 hw8
            obtain ⟨⟨w8', hb8⟩, rfl⟩ := hw8
            have hb9 := below_more hb7 hb8
            clear d0 d1
            go_wp2_with fail
            go_roundw
            case measure => simp [intOf]; omega
            case rel => exact ⟨sg, k + 1, by omega, by go_num, rfl, by rw [hd2]; exact HM.out, hb9⟩
        · have HM : Hid (B = valN E S d f ∧ EvI E.length f) := ⟨HN.out.1.trans (HVR.out d j y f hy hf hk0), HFI.out.2 f (List.mem_of_getElem? hf)⟩
          clear HN hy hf
          go_wp2_with fail
          go_roundw
          case measure => simp [intOf]; omega
          case rel => exact ⟨f, k + 1, by omega, by go_num, rfl, by rw [hd2]; exact HM.out, hb⟩
    · have HM : Hid (B = 0) := hn.out.1.trans (by rw [show E.length - k = 0 by omega]; exact HV0.out _)
      have hkI : (E.length : Int) ≤ (k : Int) := by omega
      clear hn
      go_wp2_with fail
      go_ret
      exact ⟨by rw [HM.out]; rfl, hb⟩

def lastI (l : List Int) : Int := match l.getLast? with
  | none => -1
  | some a => a

set_option maxRecDepth 20000 in
theorem lastOf_any (l : List Int) (hl : l.length ≤ 1000) (v : Value) (w : World) (h : IntAt w v l) :
    Calls Tryz.prog 76 #[v] w fun e w' => e = .returned (.int .i64 (lastI l)) ∧ Below w.heap.size w w' := by
  obtain ⟨ao, b, off, cap, hv, ha, _, hc⟩ := h
  subst hv
  by_cases hl0 : l = []
  · subst hl0
    clear hc ha
    go_enter Tryz.func76, Tryz.ntmps76
    go_wp2_with fail
    go_ret
    exact ⟨rfl, Below.refl _ _⟩
  · have hlp : 0 < l.length := List.length_pos_iff.2 hl0
    obtain ⟨a, hal1⟩ := get_of_lt (l := l) (k := l.length - 1) (by omega)
    obtain rfl := ha hl0
    have HLA : Hid (lastI l = a) := by show lastI l = a; unfold lastI; rw [List.getLast?_eq_getElem?, hal1]
    have q0 := hc _ _ hal1
    unfold IntC at q0
    rw [Nat.mul_one] at q0
    have hd1 : ((l.length : Int) == 0) = false := by simp; omega
    have hsub : (l.length : Int) - 1 = ((l.length - 1 : Nat) : Int) := by omega
    have hsubI : ((l.length - 1 : Nat) : Int) < (l.length : Int) := by omega
    have hsw : IntKind.i64.wrap ((l.length - 1 : Nat) : Int) = ((l.length - 1 : Nat) : Int) := by rw [IntKind.wrap_i64]; omega
    clear hc ha hal1
    generalize lastI l = B at HLA
    generalize l.length - 1 = l1 at *
    generalize l.length = ln at *
    go_enter Tryz.func76, Tryz.ntmps76
    go_wp2_with fail
    go_ret
    exact ⟨by rw [HLA.out]; rfl, Below.refl _ _⟩

end Go.Proofs.YtomijmikkbhgmaaGreat
