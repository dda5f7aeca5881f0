import Derived.Test.YtnpijgjedmiihaaQf
import Derived.Test.YtnpijgjedmiihaaT24
import Derived.Test.YtnpijgjedmiihaaT16
import Derived.Test.YtnpijgjedmiihaaT27
namespace Go.Proofs.Ytnpijgjedmiihaa
open Go.RowKit

set_option maxHeartbeats 1000000 in
theorem isIn_any (l : List Int) (x : Int) (v : Value) (w : World) (h : IntAt w v l) (hl : l.length ≤ 100000) :
    Calls Try.prog 96 #[v, .int .i64 x] w fun e w' => e = .returned (.bool (l.contains x)) ∧ w' = w := by
  obtain ⟨ao, b, off, cap, hv, ha, _, hc⟩ := h
  subst hv
  have HC : Hid (∀ k x, l[k]? = some x → IntC w b (off + k * 1) x) := hc
  have HB : Hid (l.contains x = (l.drop 0).contains x) := rfl
  generalize l.contains x = B at HB ⊢
  clear hc
  go_enter Try.func96, Try.ntmps96
  go_wp2_with fail
  go_loop [9] (fun i => ∃ k : Nat, k ≤ l.length ∧ i = .int .i64 k ∧ Hid (B = (l.drop k).contains x)) (fun i => l.length - (intOf i).toNat)
  case atStart => exact ⟨0, Nat.zero_le _, rfl, HB.out⟩
  case round =>
    clear HB
    obtain ⟨k, hk, rfl, hn⟩ := hrel
    by_cases hlt : k < l.length
    · obtain ⟨y, hy⟩ := get_of_lt hlt
      obtain rfl := ha (ne_nil hlt)
      have c0 := HC.out k y hy
      unfold IntC at c0
      rw [Nat.mul_one] at c0
      have hkI : (k : Int) < (l.length : Int) := by omega
      have HN : Hid (B = (y :: l.drop (k + 1)).contains x) := by rw [← drop_cons hy]; exact hn
      clear hn hy
      cases hxy : y == x
      · have HM : Hid (B = (l.drop (k + 1)).contains x) := HN.out.trans (by rw [List.contains_cons, Bool.beq_comm, hxy, Bool.false_or])
        clear HN
        go_wp2_with fail
        go_round
        case measure => simp [intOf]; omega
        case rel => exact ⟨k + 1, by omega, by go_num, HM.out⟩
      · have HM : Hid (B = true) := HN.out.trans (by rw [List.contains_cons, Bool.beq_comm, hxy, Bool.true_or])
        clear HN
        go_wp2_with fail
        go_ret
        exact ⟨by rw [HM.out]; rfl, rfl⟩
    · have HM : Hid (B = false) := hn.out.trans (by rw [drop_nil hlt]; rfl)
      have hkI : (l.length : Int) ≤ (k : Int) := by omega
      clear hn
      go_wp2_with fail
      go_ret
      exact ⟨by rw [HM.out]; rfl, rfl⟩

set_option maxHeartbeats 1000000 in
theorem isOrderOf_any (l m : List Int) (hm : m.length ≤ 100000) (u v : Value) (w : World) (hu : IntAt w u l) (hv : IntAt w v m) :
    Calls Try.prog 97 #[u, v] w fun e w' => e = .returned (.bool (shufB l m)) ∧ w' = w := by
  have HU : Hid (IntAt w u l) := hu
  obtain ⟨ao, b, off, cap, hv1, ha, _, hc⟩ := hu
  obtain ⟨ao2, b2, off2, cap2, hv2, ha2, _, hc2⟩ := hv
  subst hv1 hv2
  have HC : Hid (∀ k x, m[k]? = some x → IntC w b2 (off2 + k * 1) x) := hc2
  clear hc hc2
  by_cases hlen : l.length = m.length
  · have k0 : ((l.length : Int) != (m.length : Int)) = false := by simp [hlen]
    have HB : Hid (shufB l m = (m.drop 0).all fun y => l.contains y) := by show shufB l m = _; unfold shufB; simp [hlen]
    have HLL : Hid (l.length ≤ 100000) := by show l.length ≤ _; omega
    generalize shufB l m = B at HB ⊢
    clear hlen
    go_enter Try.func97, Try.ntmps97
    go_wp2_with fail
    go_loop [14] (fun i => ∃ k : Nat, k ≤ m.length ∧ i = .int .i64 k ∧ Hid (B = (m.drop k).all fun y => l.contains y)) (fun i => m.length - (intOf i).toNat)
    case atStart => exact ⟨0, Nat.zero_le _, rfl, HB.out⟩
    case round =>
      clear HB
      obtain ⟨k, hk, rfl, hn⟩ := hrel
      by_cases hlt : k < m.length
      · obtain ⟨y, hy⟩ := get_of_lt hlt
        obtain rfl := ha2 (ne_nil hlt)
        have c0 := HC.out k y hy
        unfold IntC at c0
        rw [Nat.mul_one] at c0
        have hkI : (k : Int) < (m.length : Int) := by omega
        have HN : Hid (B = (l.contains y && (m.drop (k + 1)).all fun y => l.contains y)) := hn.out.trans (by rw [drop_cons hy, List.all_cons])
        clear hn hy
        go_wp2_with fail
        refine (isIn_any l y _ _ HU.out HLL.out).mono ?_
        cases hly : l.contains y
        · have HM : Hid (B = false) := HN.out.trans (by rw [hly, Bool.false_and])
          rintro e w3 ⟨rfl, rfl⟩
          clear HN hly
          go_wp2_with fail
          go_ret
          exact ⟨by rw [HM.out]; rfl, rfl⟩
        · have HM : Hid (B = (m.drop (k + 1)).all fun y => l.contains y) := HN.out.trans (by rw [hly, Bool.true_and])
          rintro e w3 ⟨rfl, rfl⟩
          clear HN hly
          go_wp2_with fail
          go_round
          case measure => simp [intOf]; omega
          case rel => exact ⟨k + 1, by omega, by go_num, HM.out⟩
      · have HM : Hid (B = true) := hn.out.trans (by rw [drop_nil hlt]; rfl)
        have hkI : (m.length : Int) ≤ (k : Int) := by omega
        clear hn
        go_wp2_with fail
        go_ret
        exact ⟨by rw [HM.out]; rfl, rfl⟩
  · have k0 : ((l.length : Int) != (m.length : Int)) = true := by simp; omega
    have HB : Hid (shufB l m = false) := by
      show shufB l m = false
      have : (l.length == m.length) = false := by simpa using hlen
      unfold shufB; rw [this, Bool.false_and]
    go_enter Try.func97, Try.ntmps97
    go_wp2_with fail
    go_ret
    exact ⟨by rw [HB.out]; rfl, rfl⟩

/-- Of these reads, each with one of what it may read from, and no more. -/
def fromB (E0 : List Evt) : List Evt → List Int → Bool
  | [], F => F.isEmpty
  | y :: E, F => if y.kind == 0 then (match F with
    | [] => false
    | f :: F => (-1 :: wrs E0 0 y.loc).contains f && fromB E0 E F) else fromB E0 E F

theorem fromB_not {E0 : List Evt} {y : Evt} (h : (y.kind == 0) = false) (E : List Evt) (F : List Int) : fromB E0 (y :: E) F = fromB E0 E F := by simp [fromB, h]
theorem fromB_out {E0 : List Evt} {y : Evt} (h : (y.kind == 0) = true) (E : List Evt) : fromB E0 (y :: E) [] = false := by simp [fromB, h]
theorem fromB_read {E0 : List Evt} {y : Evt} (h : (y.kind == 0) = true) (E : List Evt) (f : Int) (F : List Int) : fromB E0 (y :: E) (f :: F) = ((-1 :: wrs E0 0 y.loc).contains f && fromB E0 E F) := by simp [fromB, h]

theorem fromB_eq (E0 : List Evt) (E : List Evt) (i : Nat) (F : List Int) : fromB E0 E F = (F.length == (rdsX E i).length && ((rdsX E i).zip F).all (okFrom E0)) := by
  induction E generalizing i F with
  | nil =>
    cases F with
    | nil => rfl
    | cons f F => rfl
  | cons y E ih =>
    cases h : y.kind == 0
    · rw [fromB_not h, rdsX_mis h]; exact ih (i + 1) F
    · rw [rdsX_hit h]
      cases F with
      | nil => rw [fromB_out h]; rfl
      | cons f F =>
        rw [fromB_read h, ih (i + 1) F, List.zip_cons_cons, List.all_cons]
        have e1 : (-1 :: wrs E0 0 y.loc).contains f = okFrom E0 ((i, y), f) := by
          unfold okFrom
          rw [List.contains_cons]
          exact Bool.or_comm _ _
        rw [e1]
        simp only [List.length_cons]
        have e2 : (F.length + 1 == (rdsX E (i + 1)).length + 1) = (F.length == (rdsX E (i + 1)).length) := by
          rw [Bool.eq_iff_iff]; simp
        rw [e2]
        cases okFrom E0 ((i, y), f) <;> cases (F.length == (rdsX E (i + 1)).length) <;> rfl

set_option maxRecDepth 20000 in
set_option maxHeartbeats 1000000 in
theorem hasFrom_any (E : List Evt) (hE : E.length ≤ 96) (F : List Int) (v vf : Value) (w : World) (h : Ev4At w v E) (hf : IntAt w vf F) :
    Calls Try.prog 72 #[v, vf] w fun e w' => e = .returned (.bool (fromB E E F)) ∧ Below w.heap.size w w' := by
  have HE : Hid (Ev4At w v E) := h
  obtain ⟨ao, b, off, cap, hv, ha, _, hc⟩ := h
  obtain ⟨aof, bf, offf, capf, hvf, haf, _, hcf⟩ := hf
  subst hv hvf
  have HC : Hid (∀ k y, E[k]? = some y → Ev4C w b (off + k * 4) y) := hc
  have HF : Hid (∀ k a, F[k]? = some a → IntC w bf (offf + k * 1) a) := hcf
  have HB : Hid (fromB E E F = fromB E (E.drop 0) (F.drop 0)) := rfl
  generalize fromB E E F = B at HB ⊢
  clear hc hcf
  go_enter Try.func72, Try.ntmps72
  go_wp2_with fail
  go_loopw [5, 11] (fun u i wr => ∃ (k c : Nat), k ≤ E.length ∧ c ≤ k ∧ c ≤ F.length ∧ i = .int .i64 k ∧ u = .int .i64 c ∧ Hid (B = fromB E (E.drop k) (F.drop c)) ∧ Below w.heap.size w wr) (fun _ i _ => E.length - (intOf i).toNat)
  case atStart => exact ⟨0, 0, Nat.zero_le _, Nat.zero_le _, Nat.zero_le _, rfl, rfl, HB.out, Below.refl _ _⟩
  case round =>
    clear HB
    obtain ⟨k, n, hk, hnk, hnF, rfl, rfl, hs, hb⟩ := hrel
    have hsz := hb.size
    by_cases hlt : k < E.length
    · obtain ⟨y, hy⟩ := get_of_lt hlt
      obtain rfl := ha (ne_nil hlt)
      obtain ⟨c0, c1, c2, c3⟩ := ev4C_keeps _ _ _ _ _ hb (HC.out k y hy)
      have hkI : (k : Int) < (E.length : Int) := by omega
      have m0 := World.block_lt_of_cell? _ _ c0
      simp only at m0
      have HS0 : Hid (B = fromB E (y :: E.drop (k + 1)) (F.drop n)) := hs.out.trans (by rw [drop_cons hy])
      have hba := below_alloc wr (.cells #[.int .i64 y.thread, .int .i64 y.place, .int .i64 y.kind, .int .i64 y.loc] 73)
      have hb4 := below_more hb hba
      clear hs hy
      cases h0 : y.kind == 0
      · have h0' : (y.kind != 0) = true := by simp [bne, h0]
        have HM : Hid (B = fromB E (E.drop (k + 1)) (F.drop n)) := HS0.out.trans (fromB_not h0 _ _)
        go_wp2_with fail
        go_roundw
        case measure => simp [intOf]; omega
        case rel => exact ⟨k + 1, n, by omega, by omega, hnF, by go_num, rfl, HM.out, hb4⟩
      · have h0' : (y.kind != 0) = false := by simp [bne, h0]
        by_cases hnl : n < F.length
        · obtain ⟨f, hf⟩ := get_of_lt hnl
          obtain rfl := haf (ne_nil hnl)
          have HM : Hid (B = ((-1 :: wrs E 0 y.loc).contains f && fromB E (E.drop (k + 1)) (F.drop (n + 1)))) := HS0.out.trans (by rw [drop_cons hf, fromB_read h0])
          have hwl := wrs_len E 0 y.loc
          generalize hW : -1 :: wrs E 0 y.loc = W at HM
          have HW : Hid (-1 :: wrs E 0 y.loc = W) := hW
          have hWl : W.length ≤ 100000 := by rw [← hW]; simp; omega
          generalize hcf : W.contains f = CB at HM
          have HCF : Hid (W.contains f = CB) := hcf
          have hnI : (n : Int) < (F.length : Int) := by omega
          have HQ0 : Hid (w.cell? ⟨bf, offf + n, none⟩ = some (.int .i64 f)) := by
            have := HF.out n f hf
            unfold IntC at this
            rw [Nat.mul_one] at this; exact this
          clear HS0 hf hW hcf hwl
          go_wp2_with fail
          refine (sources_any E hE y.loc _ _ (HE.out.keep hb4)).mono ?_
          rw [HW.out]
          rintro e w5 ⟨u5, rfl, hu5, hb5⟩
          have hbw5 := below_more hb4 hb5
          have q0 := keep_cell hbw5 HQ0.out
          have HU5 : Hid (IntAt w5 u5 W) := hu5.at'
          clear c0 c1 c2 c3 m0 hu5
          go_wp2_with fail
          refine (isIn_any W f _ _ HU5.out hWl).mono ?_
          rw [HCF.out]
          rintro e w6 ⟨rfl, hw6⟩
          replace hw6 := hw6.symm
          subst hw6
          cases CB
          · have HM2 : Hid (B = false) := HM.out.trans (by rfl)
            go_wp2_with fail
            go_ret
            exact ⟨by rw [HM2.out]; rfl, hbw5⟩
          · have HM2 : Hid (B = fromB E (E.drop (k + 1)) (F.drop (n + 1))) := HM.out.trans (by rw [Bool.true_and])
            go_wp2_with fail
            go_roundw
            case measure => simp [intOf]; omega
            case rel => exact ⟨k + 1, n + 1, by omega, by omega, by omega, by go_num, by go_num, HM2.out, hbw5⟩
        · have HM : Hid (B = false) := HS0.out.trans (by rw [drop_nil hnl, fromB_out h0])
          have hnI : (F.length : Int) ≤ (n : Int) := by omega
          go_wp2_with fail
          go_ret
          exact ⟨by rw [HM.out]; rfl, hb4⟩
    · have HM : Hid (B = ((n : Int) == (F.length : Int))) := hs.out.trans (by
        rw [drop_nil hlt]
        show (F.drop n).isEmpty = _
        rw [Bool.eq_iff_iff]
        simp [List.isEmpty_iff]
        omega)
      have hkI : (E.length : Int) ≤ (k : Int) := by omega
      clear hs
      go_wp2_with fail
      go_ret
      exact ⟨by rw [HM.out]; rfl, hb⟩

set_option maxRecDepth 20000 in
set_option maxHeartbeats 1000000 in
theorem hasOrder_any (E : List Evt) (hE : E.length ≤ 96) (x : Exe) (v vo : Value) (w : World) (h : Ev4At w v E) (ho : LstAt w vo x.order) :
    Calls Try.prog 73 #[v, vo] w fun e w' => e = .returned (.bool (x.order.length == 3 && (List.range' 0 3).all (okOrd E x))) ∧ Below w.heap.size w w' := by
  have HE : Hid (Ev4At w v E) := h
  obtain ⟨ao, b, off, cap, hv, _⟩ := h
  obtain ⟨aoo, bo, offo, capo, hvo, hao, _, hco⟩ := ho
  subst hv hvo
  have HO : Hid (∀ k l, x.order[k]? = some l → LC w bo (offo + k * 1) l) := hco
  clear hco
  by_cases h3 : x.order.length = 3
  · have HB : Hid ((x.order.length == 3 && (List.range' 0 3).all (okOrd E x)) = (List.range' 0 (3 - 0)).all (okOrd E x)) := by show _ = _; rw [h3]; rfl
    generalize (x.order.length == 3 && (List.range' 0 3).all (okOrd E x)) = B at HB ⊢
    have HL3 : Hid (x.order.length = 3) := h3
    obtain rfl := hao (by intro h; rw [h] at h3; simp at h3)
    rw [h3]
    clear h3 hao
    go_enter Try.func73, Try.ntmps73
    go_wp2_with fail
    go_loopw [13] (fun i wr => ∃ j : Nat, j ≤ 3 ∧ i = .int .i64 j ∧ Hid (B = (List.range' j (3 - j)).all (okOrd E x)) ∧ Below w.heap.size w wr) (fun i _ => 3 - (intOf i).toNat)
    case atStart => exact ⟨0, by omega, rfl, HB.out, Below.refl _ _⟩
    case round =>
      clear HB
      obtain ⟨j, hj, rfl, hn, hb⟩ := hrel
      by_cases hj3 : j < 3
      · obtain ⟨l, hl⟩ := get_of_lt (l := x.order) (k := j) (by have := HL3.out; omega)
        obtain ⟨vl, o0, ivl⟩ := HO.out j l hl
        rw [Nat.mul_one] at o0
        have HN : Hid (B = (shufB l (wrs E 0 (j : Int)) && (List.range' (j + 1) (3 - (j + 1))).all (okOrd E x))) := hn.out.trans (by rw [range_step hj3]; unfold okOrd; rw [List.getD, hl]; rfl)
        have HIV : Hid (IntAt w vl l) := ivl
        obtain ⟨aol, capl, hvl⟩ := ivl.form
        subst hvl
        have o1 := keep_cell hb o0
        have hjI : (j : Int) < 3 := by omega
        have hwl := wrs_len E 0 (j : Int)
        generalize hW : wrs E 0 (j : Int) = W at HN hwl
        have HW : Hid (wrs E 0 (j : Int) = W) := hW
        generalize hsh : shufB l W = SB at HN
        have HSH : Hid (shufB l W = SB) := hsh
        clear hn hl ivl o0 hW hsh
        go_wp2_with fail
        refine (writesP_any E hE (j : Int) _ _ (HE.out.keep hb)).mono ?_
        rw [HW.out]
        rintro e w5 ⟨u5, rfl, hu5, hb5⟩
        have hbw5 := below_more hb hb5
        have HU5 : Hid (IntAt w5 u5 W) := hu5.at'
        clear hu5 o1
        go_wp2_with fail
        refine (isOrderOf_any l W (by omega) _ _ _ (HIV.out.keep hbw5) HU5.out).mono ?_
        rw [HSH.out]
        rintro e w6 ⟨rfl, hw6⟩
        replace hw6 := hw6.symm
        subst hw6
        cases SB
        · have HM : Hid (B = false) := HN.out.trans (by rfl)
          go_wp2_with fail
          go_ret
          exact ⟨by rw [HM.out]; rfl, hbw5⟩
        · have HM : Hid (B = (List.range' (j + 1) (3 - (j + 1))).all (okOrd E x)) := HN.out.trans (by rw [Bool.true_and])
          go_wp2_with fail
          go_roundw
          case measure => simp [intOf]; omega
          case rel => exact ⟨j + 1, by omega, by go_num, HM.out, hbw5⟩
      · have hj3' : j = 3 := by omega
        subst hj3'
        have HM : Hid (B = true) := hn.out.trans (by rfl)
        clear hn
        go_wp2_with fail
        go_ret
        exact ⟨by rw [HM.out]; rfl, hb⟩
  · have h3' : ((x.order.length : Int) != 3) = true := by simp; omega
    have HB : Hid ((x.order.length == 3 && (List.range' 0 3).all (okOrd E x)) = false) := by
      show _ = _
      have : (x.order.length == 3) = false := by simpa using h3
      rw [this, Bool.false_and]
    go_enter Try.func73, Try.ntmps73
    go_wp2_with fail
    go_ret
    exact ⟨by rw [HB.out]; rfl, Below.refl _ _⟩

theorem exeB_eq (E : List Evt) (x : Exe) : exeB E x = (fromB E E x.from' && (x.order.length == 3 && (List.range' 0 3).all (okOrd E x))) := by
  unfold exeB
  rw [fromB_eq E E 0]
  generalize (x.from'.length == (rdsX E 0).length) = a
  generalize (x.order.length == 3) = b
  generalize ((rdsX E 0).zip x.from').all (okFrom E) = c
  generalize (List.range' 0 3).all (okOrd E x) = d
  cases a <;> cases b <;> cases c <;> cases d <;> rfl

set_option maxHeartbeats 1000000 in
theorem has_any (E : List Evt) (hE : E.length ≤ 96) (x : Exe) (v vf vo : Value) (w : World) (h : Ev4At w v E) (hx : ExeAt w vf vo x) :
    Calls Try.prog 60 #[v, .agg #[vf, vo]] w fun e w' => e = .returned (.bool (exeB E x)) ∧ Below w.heap.size w w' := by
  have HF : Hid (∀ w', Below w.heap.size w w' → Calls Try.prog 72 #[v, vf] w' fun e w'' => e = .returned (.bool (fromB E E x.from')) ∧ Below w'.heap.size w' w'') := fun w' hb => hasFrom_any E hE x.from' v vf w' (h.keep hb) (hx.f.keep hb)
  have HO : Hid (∀ w', Below w.heap.size w w' → Calls Try.prog 73 #[v, vo] w' fun e w'' => e = .returned (.bool (x.order.length == 3 && (List.range' 0 3).all (okOrd E x))) ∧ Below w'.heap.size w' w'') := fun w' hb => hasOrder_any E hE x v vo w' (h.keep hb) (hx.o.keep hb)
  have HB : Hid (exeB E x = (fromB E E x.from' && (x.order.length == 3 && (List.range' 0 3).all (okOrd E x)))) := exeB_eq E x
  generalize exeB E x = B at HB ⊢
  generalize fromB E E x.from' = FB at HF HB
  generalize (x.order.length == 3 && (List.range' 0 3).all (okOrd E x)) = OB at HO HB
  obtain ⟨aof, capf, hvf⟩ := hx.f.form
  obtain ⟨aoo, bo, offo, capo, hvo, _⟩ := hx.o
  obtain ⟨ao, b, off, cap, hv, _⟩ := h
  subst hv hvf hvo
  clear hx
  go_enter Try.func60, Try.ntmps60
  go_wp2_with fail
  have hba := below_alloc w (.cells #[.slice aof x.from'.length capf, .slice aoo x.order.length capo] 40)
  refine (HF.out _ hba).mono ?_
  rintro e w2 ⟨rfl, hb2⟩
  have hbw2 := below_more hba hb2
  have e1 := keep_cell hb2 (b := w.heap.size) (off := 1) (u := .slice aoo x.order.length capo) (by simp)
  cases FB
  · go_wp2_with fail
    go_ret
    exact ⟨by rw [HB.out]; rfl, hbw2⟩
  · go_wp2_with fail
    refine (HO.out w2 hbw2).mono ?_
    rintro e w3 ⟨rfl, hb3⟩
    go_wp2_with fail
    go_ret
    exact ⟨by rw [HB.out, Bool.true_and]; rfl, below_more hbw2 hb3⟩

end Go.Proofs.Ytnpijgjedmiihaa

namespace Go.Proofs.Ytnpijgjedmiihaa

theorem wrs_iff {E : List Evt} {loc a : Int} : a ∈ wrs E 0 loc ↔ ∃ (i : Nat) (y : Evt), E[i]? = some y ∧ a = (i : Int) ∧ y.kind = 1 ∧ y.loc = loc := by
  constructor
  · intro h
    obtain ⟨i, x, h1, h2, h3, h4⟩ := wrs_mem h
    exact ⟨i, x, h1, by rw [h2]; simp, h3, h4⟩
  · rintro ⟨i, y, h1, rfl, h3, h4⟩
    have hc := wrs_count (k := 0) (loc := loc) h1
    rw [Nat.zero_add, h3, h4] at hc
    simp at hc
    exact List.count_pos_iff.1 (by omega)

theorem wrs_nodup (E : List Evt) (loc : Int) : (wrs E 0 loc).Nodup := (wrs_sorted E 0 loc).imp fun h => by omega

/-- As many, and none is missing: then there are no others, and none stands twice. -/
theorem shuf_spec {l m : List Int} (hm : m.Nodup) (h : shufB l m = true) : l.Nodup ∧ ∀ a, a ∈ l ↔ a ∈ m := by
  unfold shufB at h
  simp only [Bool.and_eq_true, beq_iff_eq, List.all_eq_true] at h
  obtain ⟨h1, h2⟩ := h
  have hsub : ∀ x ∈ m, x ∈ l := fun x hx => by simpa using h2 x hx
  have key : ∀ (l m : List Int), m.Nodup → l.length = m.length → (∀ x ∈ m, x ∈ l) → l.Nodup ∧ ∀ a, a ∈ l → a ∈ m := by
    intro l
    induction l with
    | nil => intro m _ _ _; exact ⟨List.nodup_nil, fun a h => by cases h⟩
    | cons x l ih =>
      intro m hm hl hs
      have hxm : x ∈ m := by
        refine Classical.byContradiction fun hx => ?_
        have h3 : ∀ z ∈ m, z ∈ l := fun z hz => by
          rcases List.mem_cons.1 (hs z hz) with rfl | h
          · exact absurd hz hx
          · exact h
        have := nodup_le hm h3
        simp at hl; omega
      have hm2 : (m.erase x).Nodup := hm.erase x
      have hl2 : l.length = (m.erase x).length := by rw [List.length_erase_of_mem hxm]; simp at hl; omega
      have hs2 : ∀ z ∈ m.erase x, z ∈ l := fun z hz => by
        have hzx : z ≠ x := fun e => by
          subst e
          exact (List.Nodup.not_mem_erase hm) hz
        rcases List.mem_cons.1 (hs z (List.mem_of_mem_erase hz)) with rfl | h
        · exact absurd rfl hzx
        · exact h
      obtain ⟨k1, k2⟩ := ih (m.erase x) hm2 hl2 hs2
      refine ⟨List.nodup_cons.2 ⟨fun hx => (List.Nodup.not_mem_erase hm) (k2 x hx), k1⟩, fun a ha => ?_⟩
      rcases List.mem_cons.1 ha with rfl | ha
      · exact hxm
      · exact List.mem_of_mem_erase (k2 a ha)
  obtain ⟨k1, k2⟩ := key l m hm h1 hsub
  exact ⟨k1, fun a => ⟨k2 a, hsub a⟩⟩

/-- What an execution is. -/
structure IsEx (E : List Evt) (x : Exe) : Prop where
  f : x.from'.length = (rdsX E 0).length
  fw : ∀ q ∈ (rdsX E 0).zip x.from', q.2 = -1 ∨ q.2 ∈ wrs E 0 q.1.2.loc
  o3 : x.order.length = 3
  od : ∀ (j : Nat) (l : List Int), x.order[j]? = some l → l.Nodup ∧ ∀ a, a ∈ l ↔ a ∈ wrs E 0 (j : Int)

theorem isEx_of {E : List Evt} {x : Exe} (h : exeB E x = true) : IsEx E x := by
  unfold exeB at h
  simp only [Bool.and_eq_true, beq_iff_eq, List.all_eq_true] at h
  obtain ⟨⟨h1, h2⟩, h3, h4⟩ := h
  refine ⟨h1, fun q hq => ?_, h2, fun j l hl => ?_⟩
  · have := h3 q hq
    unfold okFrom at this
    simp only [Bool.or_eq_true, List.contains_iff_mem, beq_iff_eq] at this
    rcases this with h | h
    · exact .inr h
    · exact .inl h
  · have hj : j < 3 := by have := (List.getElem?_eq_some_iff.1 hl).1; omega
    have := h4 j (by rw [List.mem_range'_1]; omega)
    unfold okOrd at this
    rw [List.getD, hl] at this
    exact shuf_spec (wrs_nodup E _) this

theorem IsEx.len {E : List Evt} (hE : E.length ≤ 96) {x : Exe} (h : IsEx E x) {j : Nat} {l : List Int} (hl : x.order[j]? = some l) : l.length ≤ 96 := by
  obtain ⟨h1, h2⟩ := h.od j l hl
  have := nodup_le h1 (fun a ha => (h2 a).1 ha)
  have := wrs_len E 0 (j : Int)
  omega

theorem IsEx.xok {E : List Evt} (hE : E.length ≤ 96) (hloc : ∀ y ∈ E, locB y.loc = true) {x : Exe} (h : IsEx E x) : XOk E x := by
  have hw : ∀ {a loc : Int}, a ∈ wrs E 0 loc → ∃ i : Nat, i < E.length ∧ a = (i : Int) := fun ha => by
    obtain ⟨i, y, h1, h2, _⟩ := wrs_iff.1 ha
    exact ⟨i, (List.getElem?_eq_some_iff.1 h1).1, h2⟩
  have hl : ∀ l ∈ x.order, ∀ a ∈ l, ∃ i : Nat, i < E.length ∧ a = (i : Int) := fun l hl a ha => by
    obtain ⟨j, hj⟩ := List.mem_iff_getElem?.1 hl
    exact hw (((h.od j l hj).2 a).1 ha)
  refine ⟨h.f, h.o3, fun l hl => ?_, fun p hp => ?_⟩
  · obtain ⟨j, hj⟩ := List.mem_iff_getElem?.1 hl
    exact h.len hE hj
  · unfold arwL at hp
    rcases List.mem_append.1 hp with hp | hp
    · obtain ⟨q, hq, hp⟩ := List.mem_flatMap.1 hp
      obtain ⟨⟨r, y⟩, f⟩ := q
      have hr := rdsX_get (List.of_mem_zip hq).1
      have hrE : r < E.length := by have := (List.getElem?_eq_some_iff.1 hr.2).1; simpa using this
      unfold arw1 at hp
      rcases List.mem_append.1 hp with hp | hp
      · simp only at hp
        split at hp
        · cases hp
        · rename_i hf
          simp at hp
          subst hp
          rcases h.fw _ hq with h1 | h1
          · simp only at h1; rw [h1] at hf; simp at hf
          · obtain ⟨i, hi, e⟩ := hw h1
            simp only at e
            exact ⟨i, r, hi, hrE, by rw [e]⟩
      · obtain ⟨h1, h2⟩ := fanL_mem.1 hp
        have h3 := restL_mem h2
        have hyl := hloc y (List.mem_of_getElem? hr.2)
        obtain ⟨m, _, _, hog⟩ := ordAt_get h.o3 hyl
        obtain ⟨i, hi, e⟩ := hl _ (List.mem_of_getElem? hog) _ h3
        exact ⟨r, i, hrE, hi, by rw [← e, ← h1]⟩
    · obtain ⟨l, hlm, hp⟩ := List.mem_flatMap.1 hp
      obtain ⟨h1, h2⟩ := tailsL_mem hp
      obtain ⟨i, hi, e1⟩ := hl l hlm _ h1
      obtain ⟨k, hk, e2⟩ := hl l hlm _ h2
      exact ⟨i, k, hi, hk, by rw [← e1, ← e2]⟩

/-- The Reads with their sources, by their numbers. -/
theorem src_zip (E : List Evt) (F : List Int) (i : Nat) (hF : F.length = (rdsX E i).length) (r : Nat) (y : Evt) (f : Int) :
    ((r, y), f) ∈ (rdsX E i).zip F ↔ i ≤ r ∧ E[r - i]? = some y ∧ y.kind = 0 ∧ (srcL E F)[r - i]? = some f := by
  induction E generalizing F i with
  | nil => simp [rdsX]
  | cons x E ih =>
    have shift : ∀ {α : Type} (a : α) (l : List α) (b : α), i + 1 ≤ r → ((a :: l)[r - i]? = some b ↔ l[r - (i + 1)]? = some b) := fun a l b h => by
      rw [show r - i = (r - (i + 1)) + 1 by omega]; simp
    cases hk : x.kind == 0
    · rw [rdsX_mis hk] at hF ⊢
      rw [ih F (i + 1) hF, srcL_not hk]
      constructor
      · rintro ⟨h1, h2, h3, h4⟩
        exact ⟨by omega, (shift _ _ _ h1).2 h2, h3, (shift _ _ _ h1).2 h4⟩
      · rintro ⟨h1, h2, h3, h4⟩
        by_cases e : r = i
        · subst e
          rw [Nat.sub_self] at h2
          simp at h2
          subst h2
          rw [h3] at hk; simp at hk
        · have h1' : i + 1 ≤ r := by omega
          exact ⟨h1', (shift _ _ _ h1').1 h2, h3, (shift _ _ _ h1').1 h4⟩
    · rw [rdsX_hit hk] at hF ⊢
      cases F with
      | nil => simp at hF
      | cons f0 F =>
        rw [List.zip_cons_cons, List.mem_cons, ih F (i + 1) (by simpa using hF), srcL_read hk]
        constructor
        · rintro (e | ⟨h1, h2, h3, h4⟩)
          · simp only [Prod.mk.injEq] at e
            obtain ⟨⟨rfl, rfl⟩, rfl⟩ := e
            exact ⟨Nat.le_refl _, by simp, by simpa using hk, by simp⟩
          · exact ⟨by omega, (shift _ _ _ h1).2 h2, h3, (shift _ _ _ h1).2 h4⟩
        · rintro ⟨h1, h2, h3, h4⟩
          by_cases e : r = i
          · subst e
            rw [Nat.sub_self] at h2 h4
            simp at h2 h4
            subst h2 h4
            exact .inl rfl
          · have h1' : i + 1 ≤ r := by omega
            exact .inr ⟨h1', (shift _ _ _ h1').1 h2, h3, (shift _ _ _ h1').1 h4⟩

theorem src_other (E : List Evt) (F : List Int) (b : Nat) (y : Evt) (h : E[b]? = some y) (hk : y.kind ≠ 0) : (srcL E F)[b]? = some (-1) := by
  induction E generalizing F b with
  | nil => simp at h
  | cons x E ih =>
    cases b with
    | zero =>
      simp at h
      subst h
      rw [srcL_not (by simpa using hk)]
      rfl
    | succ b =>
      have h' : E[b]? = some y := by simpa using h
      cases hx : x.kind == 0
      · rw [srcL_not hx]; simpa using ih F b h'
      · cases F with
        | nil => rw [srcL_out hx]; simpa using ih [] b h'
        | cons f F => rw [srcL_read hx]; simpa using ih F b h'

end Go.Proofs.Ytnpijgjedmiihaa
