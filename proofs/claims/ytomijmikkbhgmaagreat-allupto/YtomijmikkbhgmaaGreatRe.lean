import Derived.Test.YtomijmikkbhgmaaGreatT8
namespace Go.Proofs.YtomijmikkbhgmaaGreat
open Go.RowKit

/-- A test that may be: few threads, short ones. -/
structure Short (T : List (List Ins)) : Prop where
  t4 : T.length ≤ 4
  l12 : ∀ l ∈ T, l.length ≤ 12

theorem instrEv_any (T : List (List Ins)) (hS : Short T) (vt : Value) (y : Evt) (i p : Nat) (l : List Ins) (h : EvIn T y i p l) (w : World) (ht : ThrAt w vt T) :
    Calls Tryz.prog 120 #[vt, e4V y] w fun e w' => e = .returned (.agg #[.int .i64 y.ins.op, .int .i64 y.ins.loc, .int .i64 y.ins.reg, .int .i64 y.ins.val, .int .i64 y.ins.mode]) ∧ Below w.heap.size w w' := by
  have := instrOf_any T hS.t4 vt i p l y.ins (hS.l12 l (List.mem_of_getElem? h.l0)) h.l0 h.l1 y.kind y.loc w ht
  unfold e4V
  rw [h.th, h.pl]
  exact this

def modB (a b : Evt) : Bool := (a.kind == 0 && a.ins.mode == 1) || (b.kind == 1 && b.ins.mode == 2)

set_option maxHeartbeats 2000000 in
theorem isModed_any (T : List (List Ins)) (hS : Short T) (vt : Value) (a b : Evt) (ia pa ib pb : Nat) (la lb : List Ins) (ha : EvIn T a ia pa la) (hb : EvIn T b ib pb lb) (w : World) (ht : ThrAt w vt T) :
    Calls Tryz.prog 162 #[vt, e4V a, e4V b] w fun e w' => e = .returned (.bool (modB a b)) ∧ Below w.heap.size w w' := by
  have HT : Hid (ThrAt w vt T ∧ EvIn T a ia pa la ∧ EvIn T b ib pb lb ∧ Short T) := ⟨ht, ha, hb, hS⟩
  have HB : Hid (modB a b = ((a.kind == 0 && a.ins.mode == 1) || (b.kind == 1 && b.ins.mode == 2))) := rfl
  generalize modB a b = B at HB ⊢
  obtain ⟨_, aoT, bT, offT, capT, hvT, _⟩ := ht
  subst hvT
  clear ha hb hS
  unfold e4V
  have HX := box4_two w a b 75
  have hbw := below_two w (.cells #[.int .i64 a.thread, .int .i64 a.place, .int .i64 a.kind, .int .i64 a.loc] 75) (.cells #[.int .i64 b.thread, .int .i64 b.place, .int .i64 b.kind, .int .i64 b.loc] 75)
  go_enter Tryz.func162, Tryz.ntmps162
  go_wp2_with fail
  generalize hW : (w.alloc (.cells #[.int .i64 a.thread, .int .i64 a.place, .int .i64 a.kind, .int .i64 a.loc] 75)).alloc (.cells #[.int .i64 b.thread, .int .i64 b.place, .int .i64 b.kind, .int .i64 b.loc] 75) = W at HX hbw ⊢
  clear hW
  refine (instrEv_any T HT.out.2.2.2 _ a ia pa la HT.out.2.1 W (HT.out.1.keep hbw)).mono ?_
  rintro e w3 ⟨rfl, hb3⟩
  have hbw3 := below_more hbw hb3
  obtain ⟨a0, a1, a2, a3⟩ := HX.1.keep hb3
  obtain ⟨b0, b1, b2, b3⟩ := HX.2.keep hb3
  have m0 := (HX.1.keep hb3).lt
  have m1 := (HX.2.keep hb3).lt
  have hgo : Hid (∀ w5, Below w.heap.size w w5 → Calls Tryz.prog 120 #[.slice aoT T.length capT, e4V b] w5 fun e w' => e = .returned (.agg #[.int .i64 b.ins.op, .int .i64 b.ins.loc, .int .i64 b.ins.reg, .int .i64 b.ins.val, .int .i64 b.ins.mode]) ∧ Below w5.heap.size w5 w') :=
    fun w5 hb5 => instrEv_any T HT.out.2.2.2 _ b ib pb lb HT.out.2.2.1 w5 (HT.out.1.keep hb5)
  cases k0 : a.kind == 0
  all_goals cases m1' : a.ins.mode == 1
  case true.true =>
    have HM : Hid (B = true) := HB.out.trans (by rw [k0, m1']; rfl)
    go_wp2_with fail
    go_ret
    exact ⟨by rw [HM.out]; rfl, hbw3.alloc hbw3.size _⟩
  all_goals
    have HB2 : Hid (B = (b.kind == 1 && b.ins.mode == 2)) := HB.out.trans (by rw [k0, m1']; rfl)
    go_wp2_with fail
    refine (hgo.out _ (hbw3.alloc hbw3.size _)).mono ?_
    rintro e w5 ⟨rfl, hb5⟩
    have hbw5 := below_more (hbw3.alloc hbw3.size (.cells #[.int .i64 a.ins.op, .int .i64 a.ins.loc, .int .i64 a.ins.reg, .int .i64 a.ins.val, .int .i64 a.ins.mode] 48)) hb5
    obtain ⟨d0, d1, d2, d3⟩ := ((HX.2.keep hb3).keep (below_alloc w3 (.cells #[.int .i64 a.ins.op, .int .i64 a.ins.loc, .int .i64 a.ins.reg, .int .i64 a.ins.val, .int .i64 a.ins.mode] 48))).keep hb5
    have m5 := World.block_lt_of_cell? _ _ d0
    simp only at m5
    cases k1 : b.kind == 1
    · have HM : Hid (B = false) := HB2.out.trans (by rw [k1]; rfl)
      go_wp2_with fail
      go_ret
      exact ⟨by rw [HM.out]; rfl, hbw5.alloc hbw5.size _⟩
    · have HM : Hid (B = (b.ins.mode == 2)) := HB2.out.trans (by rw [k1]; rfl)
      go_wp2_with fail
      go_ret
      exact ⟨by rw [HM.out]; rfl, hbw5.alloc hbw5.size _⟩

theorem fen1_eq (a b : Evt) (z : Ins) : fen1 a b z = (z.op == 4 && hldB z.mode a.kind b.kind) := rfl

set_option maxHeartbeats 2000000 in
theorem isFenced_any (T : List (List Ins)) (hS : Short T) (vt : Value) (a b : Evt) (i pa pb : Nat) (l : List Ins) (hai : a.thread = (i : Int)) (hap : a.place = (pa : Int)) (hbp : b.place = (pb : Int)) (hl : T[i]? = some l) (hpa : pa ≤ l.length) (hpb : pb ≤ l.length) (w : World) (ht : ThrAt w vt T) :
    Calls Tryz.prog 161 #[vt, e4V a, e4V b] w fun e w' => e = .returned (.bool (fenB l a b)) ∧ Below w.heap.size w w' := by
  have hl12 := hS.l12 l (List.mem_of_getElem? hl)
  have HT : Hid (ThrAt w vt T ∧ Short T ∧ T[i]? = some l) := ⟨ht, hS, hl⟩
  have HB : Hid (fenB l a b = ((l.take pb).drop (pa + 1)).any (fen1 a b)) := by show fenB l a b = _; unfold fenB; rw [hap, hbp]; rfl
  generalize fenB l a b = B at HB ⊢
  obtain ⟨_, aoT, bT, offT, capT, hvT, _⟩ := ht
  subst hvT
  have HE : Hid (a.thread = (i : Int) ∧ a.place = (pa : Int) ∧ b.place = (pb : Int)) := ⟨hai, hap, hbp⟩
  clear hS hl hai hap hbp
  unfold e4V
  have HX := box4_two w a b 75
  have hbw := below_two w (.cells #[.int .i64 a.thread, .int .i64 a.place, .int .i64 a.kind, .int .i64 a.loc] 75) (.cells #[.int .i64 b.thread, .int .i64 b.place, .int .i64 b.kind, .int .i64 b.loc] 75)
  have hW : ∃ W, (w.alloc (.cells #[.int .i64 a.thread, .int .i64 a.place, .int .i64 a.kind, .int .i64 a.loc] 75)).alloc (.cells #[.int .i64 b.thread, .int .i64 b.place, .int .i64 b.kind, .int .i64 b.loc] 75) = W := ⟨_, rfl⟩
  go_enter Tryz.func161, Tryz.ntmps161
  go_upto_region 1 with fail
  obtain ⟨W, hW⟩ := hW
  rw [hW] at HX hbw ⊢
  clear hW
  have HXX : Hid (Box4 W w.heap.size a ∧ Box4 W (w.heap.size + 1) b) := HX
  obtain ⟨⟨a0, a1, a2, a3⟩, ⟨b0, b1, b2, b3⟩⟩ := HX
  rw [HE.out.2.1] at a1
  go_wp2_with fail
  clear a0 a1 a2 a3 b0 b1 b2 b3
  go_loopw [7] (fun i' wr => ∃ k : Nat, pa + 1 ≤ k ∧ k ≤ 13 ∧ i' = .int .i64 k ∧ Hid (B = ((l.take pb).drop k).any (fen1 a b)) ∧ Below W.heap.size W wr) (fun i' _ => 13 - (intOf i').toNat)
  case atStart => exact ⟨pa + 1, Nat.le_refl _, by omega, by go_num, HB.out, Below.refl _ _⟩
  case round =>
    clear HB
    obtain ⟨k, hk1, hk2, rfl, hn, hbr⟩ := hrel
    obtain ⟨a0, a1, a2, a3⟩ := HXX.out.1.keep hbr
    obtain ⟨b0, b1, b2, b3⟩ := HXX.out.2.keep hbr
    rw [HE.out.1] at a0
    rw [HE.out.2.2] at b1
    by_cases hlt : k < pb
    · obtain ⟨z, hz⟩ := get_of_lt (l := l) (k := k) (by omega)
      have HN : Hid (B = ((z.op == 4 && hldB z.mode a.kind b.kind) || ((l.take pb).drop (k + 1)).any (fen1 a b))) := hn.out.trans (by rw [drop_cons (take_at hz hlt), List.any_cons, fen1_eq])
      have HC : Hid (∀ w5, Below w.heap.size w w5 → Calls Tryz.prog 120 #[.slice aoT T.length capT, .agg #[.int .i64 i, .int .i64 k, .int .i64 0, .int .i64 0]] w5 fun e w' => e = .returned (.agg #[.int .i64 z.op, .int .i64 z.loc, .int .i64 z.reg, .int .i64 z.val, .int .i64 z.mode]) ∧ Below w5.heap.size w5 w') :=
        fun w5 hb5 => instrOf_any T HT.out.2.1.t4 _ i k l z (HT.out.2.1.l12 l (List.mem_of_getElem? HT.out.2.2)) HT.out.2.2 hz 0 0 w5 (HT.out.1.keep hb5)
      have hkI : (k : Int) < (pb : Int) := by omega
      have hbwr := below_more hbw hbr
      clear hn hz
      go_wp2_with fail
      refine (HC.out _ hbwr).mono ?_
      rintro e w5 ⟨rfl, hb5⟩
      have hb6 := below_more hbr hb5
      clear a0 a1 a2 a3 b0 b1 b2 b3
      obtain ⟨a0, a1, a2, a3⟩ := HXX.out.1.keep hb6
      obtain ⟨b0, b1, b2, b3⟩ := HXX.out.2.keep hb6
      rw [HE.out.2.2] at b1
      have m5 := World.block_lt_of_cell? _ _ a0
      have m6 := World.block_lt_of_cell? _ _ b0
      simp only at m5 m6
      cases hz4 : z.op == 4
      · have HM : Hid (B = ((l.take pb).drop (k + 1)).any (fen1 a b)) := HN.out.trans (by rw [hz4]; rfl)
        clear HN
        go_wp2_with fail
        go_roundw
        case measure => simp [intOf]; omega
        case rel => exact ⟨k + 1, by omega, by omega, by go_num, HM.out, hb6.alloc hb6.size _⟩
      · generalize hh : hldB z.mode a.kind b.kind = Hb at HN
        have HH : Hid (hldB z.mode a.kind b.kind = Hb) := hh
        have HN2 : Hid (B = (Hb || ((l.take pb).drop (k + 1)).any (fen1 a b))) := HN.out.trans (by rw [hz4]; rfl)
        clear hh HN
        go_wp2_with fail
        refine (holds_any z.mode a.kind b.kind _).mono ?_
        rw [HH.out]
        rintro e w7 ⟨rfl, rfl⟩
        cases Hb
        · have HM : Hid (B = ((l.take pb).drop (k + 1)).any (fen1 a b)) := HN2.out.trans (by rfl)
          go_wp2_with fail
          go_roundw
          case measure => simp [intOf]; omega
          case rel => exact ⟨k + 1, by omega, by omega, by go_num, HM.out, hb6.alloc hb6.size _⟩
        · have HM : Hid (B = true) := HN2.out.trans (by rfl)
          go_wp2_with fail
          go_ret
          exact ⟨by rw [HM.out]; rfl, below_more hbw (hb6.alloc hb6.size _)⟩
    · have HM : Hid (B = false) := hn.out.trans (by rw [drop_nil (l := l.take pb) (k := k) (by rw [List.length_take]; omega)]; rfl)
      have hkI : (pb : Int) ≤ (k : Int) := by omega
      clear hn
      go_wp2_with fail
      go_ret
      exact ⟨by rw [HM.out]; rfl, below_more hbw hbr⟩

end Go.Proofs.YtomijmikkbhgmaaGreat
