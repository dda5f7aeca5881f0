import Derived.Test.YtomijmikkbhgmaaGreatT11
import Derived.Test.YtomijmikkbhgmaaGreatT7
namespace Go.Proofs.YtomijmikkbhgmaaGreat
open Go.RowKit

def okFrom (E : List Evt) (q : (Nat × Evt) × Int) : Bool := (wrs E 0 q.1.2.loc).contains q.2 || q.2 == -1
def okOrd (E : List Evt) (x : Exe) (j : Nat) : Bool := shufB (x.order.getD j []) (wrs E 0 (j : Int))
/-- Is it an execution of these events? -/
def exeB (E : List Evt) (x : Exe) : Bool :=
  (x.from'.length == (rdsX E 0).length && x.order.length == 3) && ((((rdsX E 0).zip x.from').all (okFrom E)) && ((List.range' 0 3).all (okOrd E x)))

theorem exeB_no {E : List Evt} {x : Exe} (h : ¬ (x.from'.length = (rdsX E 0).length ∧ x.order.length = 3)) : exeB E x = false := by
  unfold exeB
  have : (x.from'.length == (rdsX E 0).length && x.order.length == 3) = false := by
    cases hh : (x.from'.length == (rdsX E 0).length && x.order.length == 3)
    · rfl
    · simp only [Bool.and_eq_true, beq_iff_eq] at hh; exact absurd hh h
  rw [this, Bool.false_and]

theorem exeB_yes {E : List Evt} {x : Exe} (h1 : x.from'.length = (rdsX E 0).length) (h3 : x.order.length = 3) : exeB E x = ((((rdsX E 0).zip x.from').drop 0).all (okFrom E) && (List.range' 0 (3 - 0)).all (okOrd E x)) := by
  unfold exeB
  rw [h1, h3]
  simp

theorem range_step {j : Nat} (h : j < 3) (f : Nat → Bool) : (List.range' j (3 - j)).all f = (f j && (List.range' (j + 1) (3 - (j + 1))).all f) := by
  rw [show 3 - j = (3 - (j + 1)) + 1 by omega, List.range'_succ, List.all_cons]

set_option maxRecDepth 20000 in
set_option maxHeartbeats 10000000 in
theorem execution_any (E : List Evt) (hE : E.length ≤ 96) (x : Exe) (v vf vo : Value) (w : World) (hev : Ev9At w v E) (hx : ExeAt w vf vo x) :
    Calls Tryz.prog 55 #[v, .agg #[vf, vo]] w fun e w' => e = .returned (.bool (exeB E x)) ∧ Below w.heap.size w w' := by
  have HE : Hid (Ev9At w v E) := hev
  obtain ⟨ao, b, off, cap, hv, ha, _, hc⟩ := hev
  obtain ⟨aof, bf, off2, capf, hvf, haf, _, hcf⟩ := hx.f
  obtain ⟨aoo, bo, off3, capo, hvo, hao, _, hco⟩ := hx.o
  subst hv hvf hvo
  have HC : Hid (∀ k y, E[k]? = some y → Ev9C w b (off + k * 9) y) := hc
  have HF : Hid (∀ k a, x.from'[k]? = some a → IntC w bf (off2 + k * 1) a) := hcf
  have HO : Hid (∀ k l, x.order[k]? = some l → LC w bo (off3 + k * 1) l) := hco
  have hrl := rdsX_len E 0
  have hRI : (rdsI E 0).length = (rdsX E 0).length := List.length_map ..
  have HRI : Hid (∀ (k : Nat) (p : Nat × Evt), (rdsX E 0)[k]? = some p → (rdsI E 0)[k]? = some (p.1 : Int) ∧ E[p.1]? = some p.2) := fun k p hp => ⟨by unfold rdsI; rw [List.getElem?_map, hp]; rfl, by have := rdsX_get (List.mem_of_getElem? hp); simpa using this.2⟩
  clear hc hcf hco hx
  by_cases hlen : x.from'.length = (rdsX E 0).length ∧ x.order.length = 3
  · have HB : Hid (exeB E x = ((((rdsX E 0).zip x.from').drop 0).all (okFrom E) && (List.range' 0 (3 - 0)).all (okOrd E x))) := exeB_yes hlen.1 hlen.2
    generalize exeB E x = B at HB ⊢
    generalize rdsX E 0 = R at HB hlen hrl hRI HRI
    obtain ⟨hf, h3⟩ := hlen
    obtain rfl := hao (by intro h; rw [h] at h3; simp at h3)
    rw [h3, hf]
    have HFL : Hid (x.from'.length = R.length ∧ x.order.length = 3) := ⟨hf, h3⟩
    clear hf h3 hao
    have kR : ((R.length : Int) != (R.length : Int)) = false := by simp
    go_enter Tryz.func55, Tryz.ntmps55
    go_wp2_with fail
    refine (reads_any E hE _ _ (HE.out.keep (below_alloc _ _))).mono ?_
    generalize rdsI E 0 = RI at hRI HRI
    rintro e w2 ⟨u2, rfl, hu2, hb2⟩
    obtain ⟨ao4, b4, off4, cap4, ⟨hv4, ha4, _, hc4⟩, hb4, _⟩ := hu2
    rw [hRI] at hv4
    subst hv4
    clear hRI
    have HR4 : Hid (∀ k a, RI[k]? = some a → IntC w2 b4 (off4 + k * 1) a) := hc4
    have e0 := keep_cell hb2 (b := w.heap.size) (off := 0) (u := .slice aof R.length capf) (by simp)
    have e1 := keep_cell hb2 (b := w.heap.size) (off := 1) (u := .slice (some ⟨bo, off3, none⟩) 3 capo) (by simp)
    have hbw2 := below_more (below_alloc _ _) hb2
    have HE0 : Hid (w2.cell? ⟨w.heap.size, 0, none⟩ = some (.slice aof R.length capf) ∧ w2.cell? ⟨w.heap.size, 1, none⟩ = some (.slice (some ⟨bo, off3, none⟩) 3 capo)) := ⟨e0, e1⟩
    clear hc4 hb2
    go_wp2_with fail
    clear e0 e1
    go_loopw [6] (fun i wr => ∃ k : Nat, k ≤ R.length ∧ i = .int .i64 k ∧ Hid (B = (((R.zip x.from').drop k).all (okFrom E) && (List.range' 0 (3 - 0)).all (okOrd E x))) ∧ Below w2.heap.size w2 wr) (fun i _ => R.length - (intOf i).toNat)
    case atStart => exact ⟨0, Nat.zero_le _, rfl, HB.out, Below.refl _ _⟩
    case round =>
      clear HB
      obtain ⟨k, hk, rfl, hn, hb⟩ := hrel
      by_cases hlt : k < R.length
      · obtain ⟨⟨r, y⟩, hp⟩ := get_of_lt hlt
        obtain ⟨f, hfk⟩ := get_of_lt (l := x.from') (k := k) (by have := HFL.out.1; omega)
        obtain ⟨hr1, hr2⟩ := HRI.out k _ hp
        have hrE : r < E.length := (List.getElem?_eq_some_iff.1 hr2).1
        obtain rfl := haf (by intro h; rw [h] at hfk; simp at hfk)
        obtain rfl := ha (ne_nil hrE)
        have ha4' := ha4 (by intro h; rw [h] at hr1; simp at hr1)
        subst ha4'
        have HN : Hid (B = ((((wrs E 0 y.loc).contains f || f == -1) && ((R.zip x.from').drop (k + 1)).all (okFrom E)) && (List.range' 0 (3 - 0)).all (okOrd E x))) := hn.out.trans (by rw [drop_cons (zip_get hp hfk), List.all_cons]; rfl)
        have HK : Hid (∀ wz, Below w2.heap.size w2 wz → wz.cell? ⟨w.heap.size, 0, none⟩ = some (.slice (some ⟨bf, off2, none⟩) R.length capf) ∧ wz.cell? ⟨b4, off4 + k, none⟩ = some (.int .i64 r) ∧ wz.cell? ⟨bf, off2 + k, none⟩ = some (.int .i64 f) ∧ wz.cell? ⟨b, off + r * 9 + 3, none⟩ = some (.int .i64 y.loc)) := fun wz hz => by
          have q0 := intC_keeps _ _ _ _ _ hz (HR4.out k _ hr1)
          have q1 := intC_keeps _ _ _ _ _ (below_more hbw2 hz) (HF.out k f hfk)
          have q2 := (ev9C_keeps _ _ _ _ _ (below_more hbw2 hz) (HC.out r y hr2)).c3
          unfold IntC at q0 q1
          rw [Nat.mul_one] at q0 q1
          exact ⟨keep_cell hz HE0.out.1, q0, q1, q2⟩
        have hwl := wrs_len E 0 y.loc
        generalize hW : wrs E 0 y.loc = W at HN hwl
        have HW : Hid (wrs E 0 y.loc = W) := hW
        generalize hcf : W.contains f = C at HN
        have HCF : Hid (W.contains f = C) := hcf
        obtain ⟨e0, k0, k1, k2⟩ := HK.out wr hb
        have m0 := World.block_lt_of_cell? _ _ e0
        have m1 := World.block_lt_of_cell? _ _ k0
        have m2 := World.block_lt_of_cell? _ _ k1
        have m3 := World.block_lt_of_cell? _ _ k2
        have hkI : (k : Int) < (R.length : Int) := by omega
        have hrI : (r : Int) < (E.length : Int) := by omega
        have HEW : Hid (Ev9At wr.drew (.slice (some ⟨b, off, none⟩) E.length cap) E) := HE.out.keep (below_more hbw2 hb).drew
        clear hn hp hfk hr1 hr2 ha4 haf ha hW hcf
        go_upto_region 7 with fail
        go_cut [7] from 24 to 55 (fun s wc => s = .bool C ∧ Below w2.heap.size w2 wc)
        case first =>
          go_region_with (first | (go_at_call 109; refine (writesR_any E hE y.loc _ _ HEW.out).mono ?_; rw [HW.out]; rintro e w5 ⟨vr, rfl, hvr, hb5⟩; have hbw5 := below_more hb.drew hb5; obtain ⟨f0, f1, f2, f3⟩ := HK.out w5 hbw5) | (go_at_call 108; refine (in_any W f vr _ hvr.at' (by omega)).mono ?_; rw [HCF.out]; rintro e w6 ⟨rfl, rfl⟩))
          all_goals
            go_wp2_with fail
            go_meet
            case rel => exact ⟨rfl, hbw5⟩
        case rest =>
          obtain ⟨rfl, hbc⟩ := hcut
          clear e0 k0 k1 k2 m0 m1 m2 m3 hb HEW
          obtain ⟨e0, _, k1, _⟩ := HK.out wc hbc
          cases C
          · cases hf1 : f == -1
            · have hf2 : (f != -1) = true := by simp [bne, hf1]
              have HM : Hid (B = false) := HN.out.trans (by rw [hf1]; rfl)
              clear HN
              go_wp2_with fail
              go_ret
              exact ⟨by rw [HM.out]; rfl, below_more hbw2 hbc⟩
            · have hf2 : (f != -1) = false := by simp [bne, hf1]
              have HM : Hid (B = (((R.zip x.from').drop (k + 1)).all (okFrom E) && (List.range' 0 (3 - 0)).all (okOrd E x))) := HN.out.trans (by rw [hf1, Bool.or_true, Bool.true_and])
              clear HN
              go_wp2_with fail
              go_roundw
              case measure => simp [intOf]; omega
              case rel => exact ⟨k + 1, by omega, by go_num, HM.out, hbc⟩
          · have HM : Hid (B = (((R.zip x.from').drop (k + 1)).all (okFrom E) && (List.range' 0 (3 - 0)).all (okOrd E x))) := HN.out.trans (by rw [Bool.true_or, Bool.true_and])
            clear HN
            go_wp2_with fail
            go_roundw
            case measure => simp [intOf]; omega
            case rel => exact ⟨k + 1, by omega, by go_num, HM.out, hbc⟩
      · have HM : Hid (B = (List.range' 0 (3 - 0)).all (okOrd E x)) := hn.out.trans (by rw [drop_nil (l := R.zip x.from') (k := k) (by have := List.length_zip (l₁ := R) (l₂ := x.from'); omega)]; rfl)
        have hkI : (R.length : Int) ≤ (k : Int) := by omega
        clear hn
        go_wp2_with fail
        go_loopw [8] (fun i wr => ∃ j : Nat, j ≤ 3 ∧ i = .int .i64 j ∧ Hid (B = (List.range' j (3 - j)).all (okOrd E x)) ∧ Below w2.heap.size w2 wr) (fun i _ => 3 - (intOf i).toNat)
        case atStart => exact ⟨0, by omega, rfl, HM.out, hb⟩
        case round =>
          clear HM hb
          obtain ⟨j, hj, rfl, hn, hb⟩ := hrel
          by_cases hj3 : j < 3
          · obtain ⟨l, hl⟩ := get_of_lt (l := x.order) (k := j) (by have := HFL.out.2; omega)
            obtain ⟨vl, o0, ivl⟩ := HO.out j l hl
            rw [Nat.mul_one] at o0
            have HN : Hid (B = (shufB l (wrs E 0 (j : Int)) && (List.range' (j + 1) (3 - (j + 1))).all (okOrd E x))) := hn.out.trans (by rw [range_step hj3]; unfold okOrd; rw [List.getD, hl]; rfl)
            have HIV : Hid (IntAt w vl l) := ivl
            have hwl := wrs_len E 0 (j : Int)
            generalize hW : wrs E 0 (j : Int) = W at HN hwl
            have HW : Hid (wrs E 0 (j : Int) = W) := hW
            generalize hsh : shufB l W = C at HN
            have HSH : Hid (shufB l W = C) := hsh
            have HK : Hid (∀ wz, Below w2.heap.size w2 wz → wz.cell? ⟨w.heap.size, 1, none⟩ = some (.slice (some ⟨bo, off3, none⟩) 3 capo) ∧ wz.cell? ⟨bo, off3 + j, none⟩ = some vl ∧ IntAt wz vl l) := fun wz hz => ⟨keep_cell hz HE0.out.2, keep_cell (below_more hbw2 hz) o0, HIV.out.keep (below_more hbw2 hz)⟩
            obtain ⟨e1, o1, _⟩ := HK.out wr hb
            have m0 := World.block_lt_of_cell? _ _ e1
            have m1 := World.block_lt_of_cell? _ _ o1
            have hjI : (j : Int) < 3 := by omega
            have HEW : Hid (Ev9At wr.drew (.slice ao E.length cap) E) := HE.out.keep (below_more hbw2 hb).drew
            clear hn hl o0 ivl hW hsh
            go_upto_region 13 with fail
            go_cut [9] from 56 to 70 (fun s wc => s = .bool C ∧ Below w2.heap.size w2 wc)
            case first =>
              go_region_with (first | (go_at_call 109; refine (writesR_any E hE (j : Int) _ _ HEW.out).mono ?_; rw [HW.out]; rintro e w5 ⟨vr, rfl, hvr, hb5⟩; have hbw5 := below_more hb.drew hb5; obtain ⟨f0, f1, f2⟩ := HK.out w5 hbw5) | (go_at_call 110; refine (shuffled_any l W (by omega) vl vr _ f2 hvr.at').mono ?_; rw [HSH.out]; rintro e w6 ⟨rfl, rfl⟩))
              all_goals
                go_wp2_with fail
                go_meet
                case rel => exact ⟨rfl, hbw5⟩
            case rest =>
              obtain ⟨rfl, hbc⟩ := hcut
              clear e1 o1 m0 m1 hb HEW
              cases C
              · have HM : Hid (B = false) := HN.out.trans (by rw [Bool.false_and])
                clear HN
                go_wp2_with fail
                go_ret
                exact ⟨by rw [HM.out]; rfl, below_more hbw2 hbc⟩
              · have HM : Hid (B = (List.range' (j + 1) (3 - (j + 1))).all (okOrd E x)) := HN.out.trans (by rw [Bool.true_and])
                clear HN
                go_wp2_with fail
                go_roundw
                case measure => simp [intOf]; omega
                case rel => exact ⟨j + 1, by omega, by go_num, HM.out, hbc⟩
          · have e3 : j = 3 := by omega
            subst e3
            have HM : Hid (B = true) := hn.out.trans rfl
            clear hn
            go_wp2_with fail
            go_ret
            exact ⟨by rw [HM.out]; rfl, below_more hbw2 hb⟩
  · have HB : Hid (exeB E x = false) := exeB_no hlen
    generalize exeB E x = B at HB ⊢
    generalize rdsX E 0 = R at hlen hrl hRI HRI
    have HM : Hid (B = false) := HB.out
    go_enter Tryz.func55, Tryz.ntmps55
    go_wp2_with fail
    refine (reads_any E hE _ _ (HE.out.keep (below_alloc _ _))).mono ?_
    generalize rdsI E 0 = RI at hRI HRI
    rintro e w2 ⟨u2, rfl, hu2, hb2⟩
    obtain ⟨ao4, b4, off4, cap4, ⟨hv4, _, _, _⟩, _, _⟩ := hu2
    rw [hRI] at hv4
    subst hv4
    clear hRI
    have e0 := keep_cell hb2 (b := w.heap.size) (off := 0) (u := .slice aof x.from'.length capf) (by simp)
    have e1 := keep_cell hb2 (b := w.heap.size) (off := 1) (u := .slice aoo x.order.length capo) (by simp)
    have hbw2 := below_more (below_alloc _ _) hb2
    by_cases hf : x.from'.length = R.length
    · have h3 : x.order.length ≠ 3 := fun h => hlen ⟨hf, h⟩
      have k0 : ((x.from'.length : Int) != (R.length : Int)) = false := by simp [hf]
      have k1 : ((x.order.length : Int) != 3) = true := by simp; omega
      clear hf hlen h3
      go_wp2_with fail
      go_ret
      exact ⟨by rw [HM.out]; rfl, hbw2⟩
    · have k0 : ((x.from'.length : Int) != (R.length : Int)) = true := by simp; omega
      clear hf hlen
      go_wp2_with fail
      go_ret
      exact ⟨by rw [HM.out]; rfl, hbw2⟩

end Go.Proofs.YtomijmikkbhgmaaGreat
