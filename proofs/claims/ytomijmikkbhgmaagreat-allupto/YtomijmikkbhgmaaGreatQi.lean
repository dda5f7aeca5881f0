import Derived.Test.YtomijmikkbhgmaaGreatT8
import Derived.Deep.CutRange
import Derived.Deep.RegionWith
namespace Go.Proofs.YtomijmikkbhgmaaGreat
open Go.RowKit

def lastB (E : List Evt) (i j : Nat) (b : Evt) : Bool := b.kind == 1 && (if b.ins.op == 1 then srcG b (E.take j) 0 (-1) == (i : Int) else b.ins.op == 3 && (i : Int) == (j : Int) - 1)
/-- Does the thread keep event i ahead of event j? -/
def keepB (E : List Evt) (i j : Nat) (l : List Ins) (a b : Evt) : Bool := fenB l a b || markB a b || lastB E i j b

set_option maxRecDepth 20000 in
set_option maxHeartbeats 4000000 in
theorem keeps_any (T : List (List Ins)) (fa : Bool) (c : List Atm) (tv vt vc : Value) (E : List Evt) (hE : E.length ≤ 96) (i j : Nat) (a b : Evt) (hi : E[i]? = some a) (hj : E[j]? = some b) (n pa pb : Nat) (l : List Ins) (hai : a.thread = (n : Int)) (hap : a.place = (pa : Int)) (hbp : b.place = (pb : Int)) (hl : T[n]? = some l) (hpa : pa ≤ l.length) (hpb : pb ≤ l.length) (hl12 : l.length ≤ 12) (v : Value) (w : World) (h : TestAt w tv T fa c vt vc) (hev : Ev9At w v E) :
    Calls Tryz.prog 147 #[tv, v, .int .i64 i, .int .i64 j] w fun e w' => e = .returned (.bool (keepB E i j l a b)) ∧ Below w.heap.size w w' := by
  have HT : Hid (TestAt w tv T fa c vt vc) := h
  have HE : Hid (Ev9At w v E) := hev
  obtain ⟨hv, _, _⟩ := h
  subst hv
  obtain ⟨ao, b0, off, cap, hv, ha, _, hc⟩ := hev
  subst hv
  have hil : i < E.length := (List.getElem?_eq_some_iff.1 hi).1
  have hjl : j < E.length := (List.getElem?_eq_some_iff.1 hj).1
  obtain rfl := ha (ne_nil hil)
  have HC : Hid (Ev9C w b0 (off + i * 9) a ∧ Ev9C w b0 (off + j * 9) b ∧ E[j]? = some b) := ⟨hc i a hi, hc j b hj, hj⟩
  have HF : Hid (∀ w', Below w.heap.size w w' → Calls Tryz.prog 165 #[.agg #[vt, .bool fa, vc], evV a, evV b] w' fun e w'' => e = .returned (.bool (fenB l a b)) ∧ Below w'.heap.size w' w'') := fun w' hb => fenced_any T fa c _ vt vc a b n pa pb l hai hap hbp hl hpb hl12 (by omega) w' (HT.out.keep hb)
  have HB : Hid (keepB E i j l a b = (fenB l a b || markB a b || lastB E i j b)) := rfl
  generalize keepB E i j l a b = B at HB ⊢
  generalize fenB l a b = F at HF HB
  generalize hmm : markB a b = M at HB
  have HMM : Hid (markB a b = M) := hmm
  have hiI : (i : Int) < (E.length : Int) := by omega
  have hjI : (j : Int) < (E.length : Int) := by omega
  clear hai hap hbp hl hpa hpb hl12 hi hj hc ha hmm
  obtain ⟨c0, c1, c2, c3, c4, c5, c6, c7, c8⟩ := HC.out.1
  obtain ⟨d0, d1, d2, d3, d4, d5, d6, d7, d8⟩ := HC.out.2.1
  have m0 := World.block_lt_of_cell? _ _ c0
  simp only at m0
  go_enter Tryz.func147, Tryz.ntmps147
  go_upto_region 1 with fail
  go_cut [9] from 12 (fun s wc => s = .bool F ∧ Below (w.heap.size + 1) (w.alloc (.cells #[vt, .bool fa, vc] 25)) wc)
  case first =>
    go_region_with (go_at_call 165; refine (HF.out _ (below_alloc _ _).drew).mono ?_; rintro e w5 ⟨rfl, hb5⟩)
    all_goals
      go_wp2_with fail
      go_meet
      case rel => exact ⟨rfl, (Below.refl _ _).drew.trans (hb5.mono (by simp))⟩
  case rest =>
    obtain ⟨rfl, hbc⟩ := hcut
    have hbw : Below w.heap.size w wc := (below_alloc _ _).trans (hbc.mono (by omega))
    clear c0 c1 c2 c3 c4 c5 c6 c7 c8 d0 d1 d2 d3 d4 d5 d6 d7 d8 m0 hbc
    obtain ⟨c0, c1, c2, c3, c4, c5, c6, c7, c8⟩ := ev9C_keeps _ _ _ _ _ hbw HC.out.1
    obtain ⟨d0, d1, d2, d3, d4, d5, d6, d7, d8⟩ := ev9C_keeps _ _ _ _ _ hbw HC.out.2.1
    go_upto_region 2 with fail
    go_cut [10] from 22 (fun s wd => s = .bool M ∧ Below wc.heap.size wc wd)
    case first =>
      go_region_with (go_at_call 166; refine (marked_any a b _).mono ?_; rw [HMM.out]; rintro e w5 ⟨rfl, hb5⟩)
      all_goals
        go_wp2_with fail
        go_meet
        case rel => exact ⟨rfl, (Below.refl _ _).drew.trans (by simpa using hb5)⟩
    case rest =>
      obtain ⟨rfl, hbd⟩ := hcut
      have hbw2 := below_more hbw hbd
      clear c0 c1 c2 c3 c4 c5 c6 c7 c8 d0 d1 d2 d3 d4 d5 d6 d7 d8
      obtain ⟨_, _, d2, _, d4, _, _, _, _⟩ := ev9C_keeps _ _ _ _ _ hbw2 HC.out.2.1
      clear hbw hbd
      cases F
      · cases M
        · have HB2 : Hid (B = lastB E i j b) := HB.out.trans (by simp)
          clear HB
          cases k1 : b.kind == 1
          · have k1' : (b.kind != 1) = true := by simp [bne, k1]
            have HM : Hid (B = false) := HB2.out.trans (by unfold lastB; rw [k1]; rfl)
            go_wp2_with fail
            go_ret
            exact ⟨by rw [HM.out]; rfl, hbw2⟩
          · have k1' : (b.kind != 1) = false := by simp [bne, k1]
            cases o1 : b.ins.op == 1
            · cases o3 : b.ins.op == 3
              · have HM : Hid (B = false) := HB2.out.trans (by unfold lastB; rw [k1, o1, o3]; rfl)
                go_wp2_with fail
                go_ret
                exact ⟨by rw [HM.out]; rfl, hbw2⟩
              · have HM : Hid (B = ((i : Int) == (j : Int) - 1)) := HB2.out.trans (by unfold lastB; rw [k1, o1, o3]; rfl)
                go_wp2_with fail
                go_ret
                exact ⟨by rw [HM.out]; rfl, hbw2⟩
            · have HM : Hid (B = (srcG b (E.take j) 0 (-1) == (i : Int))) := HB2.out.trans (by unfold lastB; rw [k1, o1]; rfl)
              go_wp2_with fail
              refine (source_any E hE j b HC.out.2.2 _ _ (HE.out.keep hbw2)).mono ?_
              rintro e w6 ⟨rfl, hb6⟩
              go_wp2_with fail
              go_ret
              exact ⟨by rw [HM.out]; rfl, below_more hbw2 hb6⟩
        · have HM : Hid (B = true) := HB.out.trans (by simp)
          go_wp2_with fail
          go_ret
          exact ⟨by rw [HM.out]; rfl, hbw2⟩
      · have HM : Hid (B = true) := HB.out.trans (by simp)
        go_wp2_with fail
        go_ret
        exact ⟨by rw [HM.out]; rfl, hbw2⟩

end Go.Proofs.YtomijmikkbhgmaaGreat
