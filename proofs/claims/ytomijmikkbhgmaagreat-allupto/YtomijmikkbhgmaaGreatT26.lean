import Derived.Test.YtomijmikkbhgmaaGreatT25
import Derived.Test.YtomijmikkbhgmaaGreatT4
import Derived.Test.YtomijmikkbhgmaaGreatT1
import Derived.Test.YtomijmikkbhgmaaGreatT7
import Derived.Deep.RegionWith
namespace Go.Proofs.YtomijmikkbhgmaaGreat
open Go.RowKit

/-- A state, or nil. -/
def OptV (w : World) (u : Value) : Option (List Int) → Prop
  | none => u = .slice none 0 0
  | some l => IntAt w u l ∧ l ≠ []
def OptC (w : World) (b off : Nat) (o : Option (List Int)) : Prop := ∃ u, w.cell? ⟨b, off, none⟩ = some u ∧ OptV w u o
def OptAt (w : World) (v : Value) (L : List (Option (List Int))) : Prop := ∃ ao b off cap, SlAt w 1 OptC v L ao b off cap

theorem IntAt.drN {w : World} {v : Value} {l : List Int} (h : IntAt w v l) (n : Nat) : IntAt (w.drewN n) v l := h.keep (below_drN (Below.refl _ w) n)
theorem OptV.drewN {w : World} {u : Value} {o : Option (List Int)} (h : OptV w u o) (n : Nat) : OptV (w.drewN n) u o := by
  cases o with
  | none => exact h
  | some l => exact ⟨h.1.drN n, h.2⟩

/-- One state more: is it the least so far of those that are greater than one? -/
def lstep (than best o : Option (List Int)) : Option (List Int) := match o with
  | none => best
  | some l => if (match than with | none => false | some t => decide (cmpL l t ≤ 0)) then best else match best with
    | none => some l
    | some b => if decide (0 ≤ cmpL l b) then best else some l
def leastO (than : Option (List Int)) (best : Option (List Int)) : List (Option (List Int)) → Option (List Int)
  | [] => best
  | o :: L => leastO than (lstep than best o) L

/-- States of one length, of small numbers. -/
def StOk (n : Nat) (o : Option (List Int)) : Prop := ∀ l, o = some l → l.length = n ∧ Small l

theorem OptV.form {w : World} {u : Value} {l : List Int} (h : OptV w u (some l)) : ∃ a cap, u = .slice (some a) l.length cap := by
  obtain ⟨⟨ao, b, off, cap, hv, ha, _, _⟩, hne⟩ := h
  exact ⟨_, cap, by rw [hv, ha hne]⟩

set_option maxRecDepth 20000 in
set_option maxHeartbeats 1000000 in
theorem least_any (n : Nat) (hn : n ≤ 1000) (L : List (Option (List Int))) (hL : L.length ≤ 5000) (hok : ∀ o ∈ L, StOk n o) (than : Option (List Int)) (hth : StOk n than) (v u : Value) (w0 w : World) (hb0 : Below w0.heap.size w0 w) (hv : OptAt w0 v L) (hu : OptV w0 u than) :
    Calls Tryz.prog 47 #[v, u] w fun e w' => ∃ r, e = .returned r ∧ OptV w0 r (leastO than none L) ∧ StOk n (leastO than none L) ∧ ∃ m, w' = w.drewN m := by
  obtain ⟨ao, b, off, cap, hv1, ha, _, hc⟩ := hv
  subst hv1
  have q1 : ∀ (w : World) (a : Addr) (n c n' c' : Nat), (binOp .eql 26 (.slice (some a) n c) (.slice none n' c')).run Tryz.prog w = .ok (.bool false) w := fun w a n c n' c' => Lib.run_eql_slice_nil w _ _ (some a) n c n' c' Tryz.underlying26
  have q2 : ∀ (w : World) (n c n' c' : Nat), (binOp .eql 26 (.slice none n c) (.slice none n' c')).run Tryz.prog w = .ok (.bool true) w := fun w n c n' c' => Lib.run_eql_slice_nil w _ _ none n c n' c' Tryz.underlying26
  have q3 : ∀ (w : World) (a : Addr) (n c n' c' : Nat), (binOp .neq 26 (.slice (some a) n c) (.slice none n' c')).run Tryz.prog w = .ok (.bool true) w := fun w a n c n' c' => run_neq_slice_nil_any w _ _ (some a) n c n' c' Tryz.underlying26
  have q4 : ∀ (w : World) (n c n' c' : Nat), (binOp .neq 26 (.slice none n c) (.slice none n' c')).run Tryz.prog w = .ok (.bool false) w := fun w n c n' c' => run_neq_slice_nil_any w _ _ none n c n' c' Tryz.underlying26
  have HC : Hid (∀ k o, L[k]? = some o → ∃ u, w.cell? ⟨b, off + k, none⟩ = some u ∧ OptV w0 u o) := fun k o hk => by
    obtain ⟨u, h1, h2⟩ := hc k o hk
    rw [Nat.mul_one] at h1
    exact ⟨u, keep_cell hb0 h1, h2⟩
  have HCMP : Hid (∀ (l m : List Int) (u v : Value) (j : Nat), StOk n (some l) → StOk n (some m) → IntAt w0 u l → IntAt w0 v m → Calls Tryz.prog 48 #[u, v] (w.drewN j) fun e w'' => e = .returned (.int .i64 (cmpL l m)) ∧ ∃ k, w'' = w.drewN k) := fun l m u v j h1 h2 hu hv => by
    obtain ⟨a1, a2⟩ := h1 l rfl
    obtain ⟨b1, b2⟩ := h2 m rfl
    refine (compare_any l m (by omega) (by omega) a2 b2 u v (w.drewN j) ((hu.keep hb0).drN j) ((hv.keep hb0).drN j)).mono ?_
    rintro e w' ⟨rfl, k, rfl⟩
    exact ⟨rfl, _, by rw [World.drewN_drewN]⟩
  have HOK : Hid ((∀ o ∈ L, StOk n o) ∧ StOk n than) := ⟨hok, hth⟩
  have HB : Hid (leastO than none L = leastO than none (L.drop 0)) := rfl
  generalize leastO than none L = B at HB ⊢
  clear hc hok hth
  cases than with
  | none =>
    have hu0 : u = .slice none 0 0 := hu
    subst hu0
    go_enter Tryz.func47, Tryz.ntmps47
    go_wp2_with fail
    go_loopw [5, 6] (fun bst i wr => ∃ (k nn : Nat) (best : Option (List Int)), k ≤ L.length ∧ i = .int .i64 k ∧ Hid (OptV w0 bst best ∧ StOk n best ∧ B = leastO none best (L.drop k)) ∧ wr = w.drewN nn) (fun _ i _ => L.length - (intOf i).toNat)
    case atStart => exact ⟨0, 0, none, Nat.zero_le _, rfl, ⟨rfl, fun l h => (by cases h), HB.out⟩, rfl⟩
    case round =>
      clear HB
      obtain ⟨k, nn, best, hk, rfl, hbst, hwr⟩ := hrel
      subst hwr
      by_cases hlt : k < L.length
      · obtain ⟨o, hko⟩ := get_of_lt hlt
        obtain rfl := ha (ne_nil hlt)
        obtain ⟨uo, c0, huo⟩ := HC.out k o hko
        have hkI : (k : Int) < (L.length : Int) := by omega
        have hoo := HOK.out.1 o (List.mem_of_getElem? hko)
        have HN : Hid (B = leastO none (lstep none best o) (L.drop (k + 1))) := hbst.out.2.2.trans (by rw [drop_cons hko]; rfl)
        clear hko
        cases o with
        | none =>
          have hu0 : uo = .slice none 0 0 := huo
          subst hu0
          have HB2 : Hid (OptV w0 u5 best ∧ StOk n best ∧ B = leastO none best (L.drop (k + 1))) := ⟨hbst.out.1, hbst.out.2.1, HN.out⟩
          clear hbst huo HN
          go_wp2_with fail
          go_roundw
          case measure => simp [intOf]; omega
          case rel => exact ⟨k + 1, _, best, by omega, by go_num, HB2, rfl⟩
        | some l =>
          obtain ⟨al, capl, hul⟩ := OptV.form huo
          subst hul
          have HUL : Hid (OptV w0 (.slice (some al) l.length capl) (some l) ∧ StOk n (some l)) := ⟨huo, hoo⟩
          clear huo hoo
          cases best with
          | none =>
            have hb0 : u5 = .slice none 0 0 := hbst.out.1
            subst hb0
            have HB2 : Hid (OptV w0 (.slice (some al) l.length capl) (some l) ∧ StOk n (some l) ∧ B = leastO none (some l) (L.drop (k + 1))) := ⟨HUL.out.1, HUL.out.2, HN.out.trans (by rfl)⟩
            clear hbst HN
            go_wp2_with fail
            go_roundw
            case measure => simp [intOf]; omega
            case rel => exact ⟨k + 1, _, some l, by omega, by go_num, HB2, rfl⟩
          | some bl =>
            obtain ⟨ab, capb, hub⟩ := OptV.form hbst.out.1
            subst hub
            have HCC := HCMP.out l bl (.slice (some al) l.length capl) (.slice (some ab) bl.length capb) nn HUL.out.2 hbst.out.2.1 HUL.out.1.1 hbst.out.1.1
            have HN2 : Hid (B = leastO none (if decide (0 ≤ cmpL l bl) then some bl else some l) (L.drop (k + 1))) := HN.out.trans (by rfl)
            have HBO : Hid (OptV w0 (.slice (some ab) bl.length capb) (some bl) ∧ StOk n (some bl)) := ⟨hbst.out.1, hbst.out.2.1⟩
            generalize cmpL l bl = cm at HCC HN2
            clear hbst HN
            go_wp2_with fail
            refine HCC.mono ?_
            clear HCC
            rintro e w5 ⟨rfl, k5, rfl⟩
            by_cases hcm : 0 ≤ cm
            · have HB2 : Hid (OptV w0 (.slice (some ab) bl.length capb) (some bl) ∧ StOk n (some bl) ∧ B = leastO none (some bl) (L.drop (k + 1))) := ⟨HBO.out.1, HBO.out.2, HN2.out.trans (by simp [hcm])⟩
              clear HN2
              go_wp2_with fail
              go_roundw
              case measure => simp [intOf]; omega
              case rel => exact ⟨k + 1, _, some bl, by omega, by go_num, HB2, rfl⟩
            · have HB2 : Hid (OptV w0 (.slice (some al) l.length capl) (some l) ∧ StOk n (some l) ∧ B = leastO none (some l) (L.drop (k + 1))) := ⟨HUL.out.1, HUL.out.2, HN2.out.trans (by simp [hcm])⟩
              clear HN2
              go_wp2_with fail
              go_roundw
              case measure => simp [intOf]; omega
              case rel => exact ⟨k + 1, _, some l, by omega, by go_num, HB2, rfl⟩
      · have HM : Hid (B = best ∧ OptV w0 u5 best ∧ StOk n best) := ⟨hbst.out.2.2.trans (by rw [drop_nil hlt]; rfl), hbst.out.1, hbst.out.2.1⟩
        have hkI : (L.length : Int) ≤ (k : Int) := by omega
        clear hbst
        go_wp2_with fail
        go_ret
        exact ⟨_, rfl, by rw [HM.out.1]; exact HM.out.2.1, by rw [HM.out.1]; exact HM.out.2.2, _, rfl⟩
  | some th =>
    obtain ⟨at1, capt, hut⟩ := OptV.form hu
    subst hut
    have HT : Hid (OptV w0 (.slice (some at1) th.length capt) (some th)) := hu
    clear hu
    go_enter Tryz.func47, Tryz.ntmps47
    go_wp2_with fail
    go_loopw [5, 6] (fun bst i wr => ∃ (k nn : Nat) (best : Option (List Int)), k ≤ L.length ∧ i = .int .i64 k ∧ Hid (OptV w0 bst best ∧ StOk n best ∧ B = leastO (some th) best (L.drop k)) ∧ wr = w.drewN nn) (fun _ i _ => L.length - (intOf i).toNat)
    case atStart => exact ⟨0, 0, none, Nat.zero_le _, rfl, ⟨rfl, fun l h => (by cases h), HB.out⟩, rfl⟩
    case round =>
      clear HB
      obtain ⟨k, nn, best, hk, rfl, hbst, hwr⟩ := hrel
      subst hwr
      by_cases hlt : k < L.length
      · obtain ⟨o, hko⟩ := get_of_lt hlt
        obtain rfl := ha (ne_nil hlt)
        obtain ⟨uo, c0, huo⟩ := HC.out k o hko
        have hkI : (k : Int) < (L.length : Int) := by omega
        have hoo := HOK.out.1 o (List.mem_of_getElem? hko)
        have HN : Hid (B = leastO (some th) (lstep (some th) best o) (L.drop (k + 1))) := hbst.out.2.2.trans (by rw [drop_cons hko]; rfl)
        clear hko
        cases o with
        | none =>
          have hu0 : uo = .slice none 0 0 := huo
          subst hu0
          have HB2 : Hid (OptV w0 u5 best ∧ StOk n best ∧ B = leastO (some th) best (L.drop (k + 1))) := ⟨hbst.out.1, hbst.out.2.1, HN.out⟩
          clear hbst huo HN
          go_wp2_with fail
          go_roundw
          case measure => simp [intOf]; omega
          case rel => exact ⟨k + 1, _, best, by omega, by go_num, HB2, rfl⟩
        | some l =>
          obtain ⟨al, capl, hul⟩ := OptV.form huo
          subst hul
          have HUL : Hid (OptV w0 (.slice (some al) l.length capl) (some l) ∧ StOk n (some l)) := ⟨huo, hoo⟩
          clear huo hoo
          have HCT := HCMP.out l th (.slice (some al) l.length capl) (.slice (some at1) th.length capt) nn HUL.out.2 HOK.out.2 HUL.out.1.1 HT.out.1
          have hct : decide (cmpL l th ≤ 0) = decide (cmpL l th ≤ 0) := rfl
          generalize hg : cmpL l th = ct at HCT hct
          by_cases hle : ct ≤ 0
          · have HB2 : Hid (OptV w0 u5 best ∧ StOk n best ∧ B = leastO (some th) best (L.drop (k + 1))) := ⟨hbst.out.1, hbst.out.2.1, HN.out.trans (by simp [lstep, hg, hle])⟩
            clear hbst HN hg hct
            go_wp2_with fail
            refine HCT.mono ?_
            clear HCT
            rintro e w5 ⟨rfl, k4, rfl⟩
            go_wp2_with fail
            go_roundw
            case measure => simp [intOf]; omega
            case rel => exact ⟨k + 1, _, best, by omega, by go_num, HB2, rfl⟩
          · replace HN : Hid (B = leastO (some th) (lstep none best (some l)) (L.drop (k + 1))) := HN.out.trans (by simp [lstep, hg, hle])
            clear hg hct
            go_wp2_with fail
            refine HCT.mono ?_
            clear HCT
            rintro e w5 ⟨rfl, k4, rfl⟩
            cases best with
            | none =>
              have hb0 : u5 = .slice none 0 0 := hbst.out.1
              subst hb0
              have HB2 : Hid (OptV w0 (.slice (some al) l.length capl) (some l) ∧ StOk n (some l) ∧ B = leastO (some th) (some l) (L.drop (k + 1))) := ⟨HUL.out.1, HUL.out.2, HN.out.trans (by rfl)⟩
              clear hbst HN
              go_wp2_with fail
              go_roundw
              case measure => simp [intOf]; omega
              case rel => exact ⟨k + 1, _, some l, by omega, by go_num, HB2, rfl⟩
            | some bl =>
              obtain ⟨ab, capb, hub⟩ := OptV.form hbst.out.1
              subst hub
              have HCC := HCMP.out l bl (.slice (some al) l.length capl) (.slice (some ab) bl.length capb) k4 HUL.out.2 hbst.out.2.1 HUL.out.1.1 hbst.out.1.1
              have HN2 : Hid (B = leastO (some th) (if decide (0 ≤ cmpL l bl) then some bl else some l) (L.drop (k + 1))) := HN.out.trans (by rfl)
              have HBO : Hid (OptV w0 (.slice (some ab) bl.length capb) (some bl) ∧ StOk n (some bl)) := ⟨hbst.out.1, hbst.out.2.1⟩
              generalize cmpL l bl = cm at HCC HN2
              clear hbst HN
              go_wp2_with fail
              refine HCC.mono ?_
              clear HCC
              rintro e w5 ⟨rfl, k5, rfl⟩
              by_cases hcm : 0 ≤ cm
              · have HB2 : Hid (OptV w0 (.slice (some ab) bl.length capb) (some bl) ∧ StOk n (some bl) ∧ B = leastO (some th) (some bl) (L.drop (k + 1))) := ⟨HBO.out.1, HBO.out.2, HN2.out.trans (by simp [hcm])⟩
                clear HN2
                go_wp2_with fail
                go_roundw
                case measure => simp [intOf]; omega
                case rel => exact ⟨k + 1, _, some bl, by omega, by go_num, HB2, rfl⟩
              · have HB2 : Hid (OptV w0 (.slice (some al) l.length capl) (some l) ∧ StOk n (some l) ∧ B = leastO (some th) (some l) (L.drop (k + 1))) := ⟨HUL.out.1, HUL.out.2, HN2.out.trans (by simp [hcm])⟩
                clear HN2
                go_wp2_with fail
                go_roundw
                case measure => simp [intOf]; omega
                case rel => exact ⟨k + 1, _, some l, by omega, by go_num, HB2, rfl⟩
      · have HM : Hid (B = best ∧ OptV w0 u5 best ∧ StOk n best) := ⟨hbst.out.2.2.trans (by rw [drop_nil hlt]; rfl), hbst.out.1, hbst.out.2.1⟩
        have hkI : (L.length : Int) ≤ (k : Int) := by omega
        clear hbst
        go_wp2_with fail
        go_ret
        exact ⟨_, rfl, by rw [HM.out.1]; exact HM.out.2.1, by rw [HM.out.1]; exact HM.out.2.2, _, rfl⟩

end Go.Proofs.YtomijmikkbhgmaaGreat

namespace Go.Proofs.YtomijmikkbhgmaaGreat
open Go.RowKit

theorem srcG_yes {y z : Evt} (l : List Evt) (i : Nat) (a : Int) (h1 : (z.kind == 0) = true) (h2 : (z.thread == y.thread) = true) (h3 : (z.ins.reg == y.ins.reg) = true) : srcG y (z :: l) i a = srcG y l (i + 1) (i : Int) := by rw [srcG, h1, h2, h3]; rfl
theorem srcG_no {y z : Evt} (l : List Evt) (i : Nat) (a : Int) (h : (z.kind == 0 && z.thread == y.thread && z.ins.reg == y.ins.reg) = false) : srcG y (z :: l) i a = srcG y l (i + 1) a := by rw [srcG, h]; rfl

set_option maxRecDepth 20000 in
set_option maxHeartbeats 1000000 in
theorem holdsR_any (E : List Evt) (hE : E.length ≤ 96) (th rg : Int) (v : Value) (w : World) (hev : Ev9At w v E) :
    Calls Tryz.prog 78 #[v, .int .i64 th, .int .i64 rg] w fun e w' => e = .returned (.int .i64 (srcG (evtOf th rg) E 0 (-1))) ∧ Below w.heap.size w w' := by
  obtain ⟨ao, b, off, cap, hv, ha, _, hc⟩ := hev
  subst hv
  have HC : Hid (∀ k y, E[k]? = some y → Ev9C w b (off + k * 9) y) := hc
  have HS : Hid (srcG (evtOf th rg) E 0 (-1) = srcG (evtOf th rg) (E.drop 0) 0 (-1)) := rfl
  generalize srcG (evtOf th rg) E 0 (-1) = S at HS ⊢
  clear hc
  go_enter Tryz.func78, Tryz.ntmps78
  go_wp2_with fail
  go_loop [7, 8] (fun at' i => ∃ (k : Nat) (a : Int), k ≤ E.length ∧ i = .int .i64 k ∧ at' = .int .i64 a ∧ Hid (S = srcG (evtOf th rg) (E.drop k) k a)) (fun _ i => E.length - (intOf i).toNat)
  case atStart => exact ⟨0, -1, Nat.zero_le _, rfl, rfl, HS.out⟩
  case round =>
    clear HS
    obtain ⟨k, a, hk, rfl, rfl, hn⟩ := hrel
    by_cases hlt : k < E.length
    · obtain ⟨z, hz⟩ := get_of_lt hlt
      obtain rfl := ha (ne_nil hlt)
      obtain ⟨c0, _, c2, _, _, _, c6, _, _⟩ := HC.out k z hz
      have hkI : (k : Int) < (E.length : Int) := by omega
      have HN : Hid (S = srcG (evtOf th rg) (z :: E.drop (k + 1)) k a) := hn.out.trans (by rw [drop_cons hz])
      clear hn hz
      cases h2 : z.thread == th
      · have HM : Hid (S = srcG (evtOf th rg) (E.drop (k + 1)) (k + 1) a) := HN.out.trans (srcG_no _ _ _ (by show (z.kind == 0 && z.thread == th && _) = false; rw [h2]; simp))
        go_wp2_with fail
        go_round
        case measure => simp [intOf]; omega
        case rel => exact ⟨k + 1, a, by omega, by go_num, rfl, HM.out⟩
      · cases h1 : z.kind == 0
        · have HM : Hid (S = srcG (evtOf th rg) (E.drop (k + 1)) (k + 1) a) := HN.out.trans (srcG_no _ _ _ (by rw [h1]; simp))
          go_wp2_with fail
          go_round
          case measure => simp [intOf]; omega
          case rel => exact ⟨k + 1, a, by omega, by go_num, rfl, HM.out⟩
        · cases h3 : z.ins.reg == rg
          · have HM : Hid (S = srcG (evtOf th rg) (E.drop (k + 1)) (k + 1) a) := HN.out.trans (srcG_no _ _ _ (by show (_ && _ && z.ins.reg == rg) = false; rw [h3]; simp))
            go_wp2_with fail
            go_round
            case measure => simp [intOf]; omega
            case rel => exact ⟨k + 1, a, by omega, by go_num, rfl, HM.out⟩
          · have HM : Hid (S = srcG (evtOf th rg) (E.drop (k + 1)) (k + 1) (k : Int)) := HN.out.trans (srcG_yes _ _ _ h1 h2 h3)
            go_wp2_with fail
            go_round
            case measure => simp [intOf]; omega
            case rel => exact ⟨k + 1, k, by omega, by go_num, rfl, HM.out⟩
    · have HM : Hid (S = a) := hn.out.trans (by rw [drop_nil hlt]; rfl)
      have hkI : (E.length : Int) ≤ (k : Int) := by omega
      clear hn
      go_wp2_with fail
      go_ret
      exact ⟨by rw [HM.out]; rfl, Below.refl _ _⟩

/-- The registers of the first i threads, and of the next one the first r. -/
def regL (E : List Evt) (S : Nat → Int) (i r : Nat) : List Int := ((List.range i).flatMap fun i => (List.range 3).map (regV E S i)) ++ (List.range r).map (regV E S i)
theorem regL_step (E : List Evt) (S : Nat → Int) (i r : Nat) : regL E S i (r + 1) = regL E S i r ++ [regV E S i r] := by unfold regL; rw [List.range_succ (n := r), List.map_append]; simp
theorem regL_next (E : List Evt) (S : Nat → Int) (i : Nat) : regL E S (i + 1) 0 = regL E S i 3 := by unfold regL; rw [List.range_succ (n := i), List.flatMap_append]; simp
theorem regL_len (E : List Evt) (S : Nat → Int) (i r : Nat) : (regL E S i r).length = 3 * i + r := by
  unfold regL
  rw [List.length_append, List.length_map, List.length_range, flat_len _ 3 (fun _ => by simp), List.length_range]; omega

theorem srcE {E : List Evt} (y : Evt) : EvI E.length (srcG y E 0 (-1)) := by
  rcases srcG_range y E 0 (-1) (.inl rfl) with h | ⟨a, h1, h2⟩
  · exact .inl h
  · exact .inr ⟨a, h1, by omega⟩

set_option maxRecDepth 20000 in
set_option maxHeartbeats 2000000 in
theorem state_any (T : List (List Ins)) (hT : T.length ≤ 4) (fa : Bool) (c : List Atm) (vt vc : Value) (E : List Evt) (hE : E.length ≤ 96) (x : Exe) (hf : x.from'.length = (rdsX E 0).length) (hr : ∀ f ∈ x.from', EvI E.length f) (h3 : x.order.length = 3) (ho : ∀ l ∈ x.order, l.length ≤ 96 ∧ ∀ a ∈ l, EvI E.length a) (v vf vo : Value) (w : World) (ht : TestAt w (.agg #[vt, .bool fa, vc]) T fa c vt vc) (hev : Ev9At w v E) (hx : ExeAt w vf vo x) :
    Calls Tryz.prog 41 #[.agg #[vt, .bool fa, vc], v, .agg #[vf, vo]] w fun e w' => ∃ u, e = .returned u ∧ IntNew w.heap.size w' u (staL T.length E (fun r => frG ((rdsX E 0).zip x.from') (r : Int)) x) ∧ Below w.heap.size w w' := by
  have HV : Hid (∀ (i : Int) (w' : World), EvI E.length i → Below w.heap.size w w' → Calls Tryz.prog 77 #[v, .agg #[vf, vo], .int .i64 i, .int .i64 (2 * E.length : Nat)] w' fun e w'' => e = .returned (.int .i64 (valN E (fun r => frG ((rdsX E 0).zip x.from') (r : Int)) (2 * E.length) i)) ∧ Below w'.heap.size w' w'') := fun i w' hi hb => value_any E hE x hf hr (2 * E.length) (by omega) i hi v vf vo w' (hev.keep hb) (hx.keep hb)
  have HH : Hid (∀ (i r : Nat) (w' : World), Below w.heap.size w w' → Calls Tryz.prog 78 #[v, .int .i64 i, .int .i64 r] w' fun e w'' => e = .returned (.int .i64 (srcG (evtOf i r) E 0 (-1))) ∧ Below w'.heap.size w' w'') := fun i r w' hb => holdsR_any E hE i r v w' (hev.keep hb)
  have HRV : Hid (∀ i r : Nat, regV E (fun r => frG ((rdsX E 0).zip x.from') (r : Int)) i r = valN E (fun r => frG ((rdsX E 0).zip x.from') (r : Int)) (2 * E.length) (srcG (evtOf i r) E 0 (-1))) := fun _ _ => rfl
  have HST : Hid (staL T.length E (fun r => frG ((rdsX E 0).zip x.from') (r : Int)) x = regL E (fun r => frG ((rdsX E 0).zip x.from') (r : Int)) T.length 0 ++ (List.range 3).map (locV E (fun r => frG ((rdsX E 0).zip x.from') (r : Int)) x)) := by show _ = _; unfold staL regL; simp
  have HLV : Hid (∀ (j : Nat) (l : List Int), x.order[j]? = some l → (l = [] → locV E (fun r => frG ((rdsX E 0).zip x.from') (r : Int)) x j = 0) ∧ ∀ a, l[l.length - 1]? = some a → locV E (fun r => frG ((rdsX E 0).zip x.from') (r : Int)) x j = valN E (fun r => frG ((rdsX E 0).zip x.from') (r : Int)) (2 * E.length) a) := fun j l hl => by
    refine ⟨fun h0 => ?_, fun a ha => ?_⟩
    · unfold locV; rw [List.getD, hl, h0]; rfl
    · unfold locV; rw [List.getD, hl]; simp only [Option.getD_some]; rw [List.getLast?_eq_getElem?, ha]
  generalize hSf : (fun r : Nat => frG ((rdsX E 0).zip x.from') (r : Int)) = S at HV HRV HST HLV ⊢
  obtain ⟨aof, capf, hvf⟩ := hx.f.form
  obtain ⟨aoo, bo, offo, capo, hvo, hao, _, hco⟩ := hx.o
  have HO : Hid (∀ k l, x.order[k]? = some l → LC w bo (offo + k * 1) l) := hco
  obtain ⟨ao, b, off, cap, hv, ha, _, hc⟩ := hev
  obtain ⟨ht0, aot, bt, offt, capt, htv, _⟩ := ht.ht.opened
  subst hv hvf hvo htv
  have HL3 : Hid (x.order.length = 3 ∧ ∀ l ∈ x.order, l.length ≤ 96 ∧ ∀ a ∈ l, EvI E.length a) := ⟨h3, ho⟩
  obtain rfl := hao (by intro h; rw [h] at h3; simp at h3)
  obtain ⟨i0, hi, hz0, hz1, hz2⟩ := info_parts Tryz.info3
  have HI : Hid (Tryz.prog.info? 3 = some i0 ∧ i0.zero = some (.int .i64 0) ∧ i0.size = 1 ∧ i0.bytes = 8) := ⟨hi, hz0, hz1, hz2⟩
  have h2n : (2 : Int) * (E.length : Int) = ((2 * E.length : Nat) : Int) := by simp
  have h2w : IntKind.i64.wrap ((2 * E.length : Nat) : Int) = ((2 * E.length : Nat) : Int) := by rw [IntKind.wrap_i64]; omega
  generalize 2 * E.length = D at HV HRV HLV h2n h2w
  clear hi hz0 hz1 hz2 hx hc ha hco hSf ht hr hf h3 ho hao
  go_enter Tryz.func41, Tryz.ntmps41
  go_wp2_with fail
  have hba := below_two w (.cells #[.slice aot T.length capt, .bool fa, vc] 25) (.cells #[.slice aof x.from'.length capf, .slice (some ⟨bo, offo, none⟩) x.order.length capo] 29)
  have HBX : Hid (∀ w', Below (w.heap.size + 1 + 1) ((w.alloc (.cells #[.slice aot T.length capt, .bool fa, vc] 25)).alloc (.cells #[.slice aof x.from'.length capf, .slice (some ⟨bo, offo, none⟩) x.order.length capo] 29)) w' → w'.cell? ⟨w.heap.size, 0, none⟩ = some (.slice aot T.length capt) ∧ w'.cell? ⟨w.heap.size + 1, 0, none⟩ = some (.slice aof x.from'.length capf) ∧ w'.cell? ⟨w.heap.size + 1, 1, none⟩ = some (.slice (some ⟨bo, offo, none⟩) x.order.length capo)) := fun w' hb => by
    have h1 := hb.cell (p := ⟨w.heap.size, 0, none⟩) (by first | (simp; done) | (simp; omega))
    have h4 := hb.cell (p := ⟨w.heap.size + 1, 0, none⟩) (by simp)
    have h5 := hb.cell (p := ⟨w.heap.size + 1, 1, none⟩) (by simp)
    exact ⟨h1.trans (by simp), h4.trans (by simp), h5.trans (by simp)⟩
  have hsW : ((w.alloc (.cells #[.slice aot T.length capt, .bool fa, vc] 25)).alloc (.cells #[.slice aof x.from'.length capf, .slice (some ⟨bo, offo, none⟩) x.order.length capo] 29)).heap.size = w.heap.size + 1 + 1 := by simp
  generalize (w.alloc (.cells #[.slice aot T.length capt, .bool fa, vc] 25)).alloc (.cells #[.slice aof x.from'.length capf, .slice (some ⟨bo, offo, none⟩) x.order.length capo] 29) = W at hba HBX hsW ⊢
  rw [← hsW] at HBX
  clear hsW
  go_loopw [7, 8] (fun u i wr => ∃ k : Nat, k ≤ T.length ∧ i = .int .i64 k ∧ wr.ownsRow W.heap.size 3 1 u (regL E S k 0).length ((regL E S k 0).map (Value.int .i64)) ∧ Below W.heap.size W wr) (fun _ i _ => T.length - (intOf i).toNat)
  case atStart => exact ⟨0, Nat.zero_le _, rfl, World.ownsRow_nil _ _ _ _, Below.refl _ _⟩
  case round =>
    obtain ⟨k, hk, rfl, hown, hb⟩ := hrel
    obtain ⟨t0, x0, x1⟩ := HBX.out wr hb
    have HOW : Hid (wr.ownsRow W.heap.size 3 1 u7 (regL E S k 0).length ((regL E S k 0).map (Value.int .i64))) := hown
    clear hown
    by_cases hlt : k < T.length
    · have hkI : (k : Int) < (T.length : Int) := by omega
      go_wp2_with fail
      clear t0 x0 x1
      go_loopw [7, 9] (fun u i wr => ∃ r : Nat, r ≤ 3 ∧ i = .int .i64 r ∧ Hid (wr.ownsRow W.heap.size 3 1 u (regL E S k r).length ((regL E S k r).map (Value.int .i64))) ∧ Below W.heap.size W wr) (fun _ i _ => 3 - (intOf i).toNat)
      case atStart => exact ⟨0, by omega, rfl, HOW.out, hb⟩
      case round =>
        clear HOW hb
        obtain ⟨r, hr3, rfl, hown, hb⟩ := hrel
        obtain ⟨t0, x0, x1⟩ := HBX.out wr hb
        have hbw := below_more hba hb
        by_cases hr : r < 3
        · have hrI : (r : Int) < 3 := by omega
          have HSE : Hid (EvI E.length (srcG (evtOf k r) E 0 (-1))) := srcE _
          have HH1 : Hid (∀ w', Below w.heap.size w w' → Calls Tryz.prog 78 #[.slice ao E.length cap, .int .i64 k, .int .i64 r] w' fun e w'' => e = .returned (.int .i64 (srcG (evtOf k r) E 0 (-1))) ∧ Below w'.heap.size w' w'') := fun w' hb => HH.out k r w' hb
          have HR1 : Hid (regL E S k (r + 1) = regL E S k r ++ [valN E S D (srcG (evtOf k r) E 0 (-1))]) := by show _ = _; rw [regL_step, HRV.out]
          have hlen : (regL E S k r).length ≤ 100 := by rw [regL_len]; omega
          generalize srcG (evtOf k r) E 0 (-1) = sr at HSE HH1 HR1
          have HV1 : Hid (∀ w', Below w.heap.size w w' → Calls Tryz.prog 77 #[.slice ao E.length cap, .agg #[.slice aof x.from'.length capf, .slice (some ⟨bo, offo, none⟩) x.order.length capo], .int .i64 sr, .int .i64 D] w' fun e w'' => e = .returned (.int .i64 (valN E S D sr)) ∧ Below w'.heap.size w' w'') := fun w' hb => HV.out sr w' HSE.out hb
          generalize valN E S D sr = val at HR1 HV1
          generalize regL E S k r = xs at hown HR1 hlen
          have HO1 := hown
          clear hown t0
          replace x0 := grown_cell x0
          replace x1 := grown_cell x1
          have hne := grw_some wr
          go_wp2_with fail
          refine wp_region_grown (by kernel_rfl) (by kernel_rfl) ?_
          repeat (go_big_quiet_step (first | (go_at_call 78; exact grown_call (HH1.out _ (below_more hbw (Grw.low _)))) | (go_at_call 77; exact grown_call (HV1.out _ (below_more hbw (Grw.low _))))))
          refine wpQuiet_nil ?_
          intro w7 hw7
          obtain ⟨⟨w7', hb7⟩, rfl⟩ := hw7
          clear x0 x1
          have HO7 : Hid (w7.ownsRow W.heap.size 3 1 u7 xs.length (xs.map (Value.int .i64))) := own_keep HO1.out hb7
          have hb8 := below_more hb hb7
          have hs8 := hb8.size
          clear HO1 hb hb7
          go_wp2_with (at_builtin; refine append_new _ rfl _ _ 26 rfl W.heap.size 3 i0 (.int .i64 0) 1 8 Tryz.underlying26 HI.out.1 HI.out.2.1 HI.out.2.2.1 HI.out.2.2.2 rfl (by decide) _ xs.length (xs.map (Value.int .i64)) rfl (HO7.out.alloc _) (some ⟨w7.heap.size, 0, none⟩) 1 1 [.int .i64 val] rfl (fun h => by cases h) rfl (fun ad had => by cases had; exact new_one rfl) (by simp [Value.oneCell']) (by unfold maxLen; omega) (by omega) (by simp; omega) ?_)
          intro u' w9 hown' hgrow _
          have hb9 : Below W.heap.size W w9 := Below.grown (hb8.alloc hs8 _) hgrow (by simp; omega) (fun kk e => (HO7.out.lt kk e).1)
          have HO9 : Hid (w9.ownsRow W.heap.size 3 1 u' (regL E S k (r + 1)).length ((regL E S k (r + 1)).map (Value.int .i64))) := by rw [HR1.out]; exact own_snoc hown'
          clear hgrow hown'
          go_wp2_with fail
          go_roundw
          case measure => simp [intOf]; omega
          case rel => exact ⟨r + 1, by omega, by go_num, HO9.out, hb9⟩
        · have hr2 : r = 3 := by omega
          subst hr2
          have HO1 : Hid (wr.ownsRow W.heap.size 3 1 u7 (regL E S (k + 1) 0).length ((regL E S (k + 1) 0).map (Value.int .i64))) := by rw [regL_next]; exact hown.out
          clear hown
          go_wp2_with fail
          go_roundw
          case measure => simp [intOf]; omega
          case rel => exact ⟨k + 1, by omega, by go_num, HO1.out, hb⟩
    · have hkk : k = T.length := by omega
      have hkI : (T.length : Int) ≤ (k : Int) := by omega
      have HRG : Hid (staL T.length E S x = regL E S k 0 ++ (List.range 3).map (locV E S x)) := by rw [HST.out, hkk]; exact rfl
      have hrgl : (regL E S k 0).length ≤ 100 := by rw [regL_len]; omega
      generalize regL E S k 0 = RG at HOW HRG hrgl
      clear hkk
      have HO0 : Hid (wr.ownsRow W.heap.size 3 1 u7 (RG ++ (List.range 0).map (locV E S x)).length ((RG ++ (List.range 0).map (locV E S x)).map (Value.int .i64))) := by
        show wr.ownsRow W.heap.size 3 1 u7 (RG ++ []).length ((RG ++ []).map (Value.int .i64))
        rw [List.append_nil]; exact HOW.out
      clear HOW
      go_wp2_with fail
      clear t0 x0 x1
      go_loopw [7, 11] (fun u i wr => ∃ j : Nat, j ≤ 3 ∧ i = .int .i64 j ∧ Hid (wr.ownsRow W.heap.size 3 1 u (RG ++ (List.range j).map (locV E S x)).length ((RG ++ (List.range j).map (locV E S x)).map (Value.int .i64))) ∧ Below W.heap.size W wr) (fun _ i _ => 3 - (intOf i).toNat)
      case atStart => exact ⟨0, by omega, rfl, HO0.out, hb⟩
      case round =>
        clear HO0 hb
        obtain ⟨j, hj, rfl, hown, hb⟩ := hrel
        obtain ⟨t0, x0, x1⟩ := HBX.out wr hb
        have hbw := below_more hba hb
        by_cases hj3 : j < 3
        · obtain ⟨l, hl⟩ := get_of_lt (l := x.order) (k := j) (by have := HL3.out.1; omega)
          obtain ⟨hl96, hlE⟩ := HL3.out.2 l (List.mem_of_getElem? hl)
          obtain ⟨ul, c0, ivl⟩ := lc_keeps _ _ _ _ _ hbw (HO.out j l hl)
          rw [Nat.mul_one] at c0
          obtain ⟨aol, bl, offl, capl, hvl, hal, _, hcl⟩ := ivl
          subst hvl
          have hjI : (j : Int) < (x.order.length : Int) := by have := HL3.out.1; omega
          have hj3I : (j : Int) < 3 := by omega
          have HLS : Hid (RG ++ (List.range (j + 1)).map (locV E S x) = (RG ++ (List.range j).map (locV E S x)) ++ [locV E S x j]) := by show _ = _; rw [List.range_succ (n := j), List.map_append]; simp
          have hxsl : (RG ++ (List.range j).map (locV E S x)).length ≤ 200 := by rw [List.length_append, List.length_map, List.length_range]; omega
          obtain ⟨hlv0, hlv1⟩ := HLV.out j l hl
          generalize RG ++ (List.range j).map (locV E S x) = xs at hown HLS hxsl
          have HO1 := hown
          clear hown t0
          by_cases hl0 : l = []
          · subst hl0
            have HLZ : Hid (locV E S x j = 0) := hlv0 rfl
            have hsz := hb.size
            clear hlv0 hlv1 hcl hl hal hlE
            go_wp2_with (at_builtin; refine append_new _ rfl _ _ 26 rfl W.heap.size 3 i0 (.int .i64 0) 1 8 Tryz.underlying26 HI.out.1 HI.out.2.1 HI.out.2.2.1 HI.out.2.2.2 rfl (by decide) _ xs.length (xs.map (Value.int .i64)) rfl (HO1.out.alloc _) (some ⟨wr.heap.size, 0, none⟩) 1 1 [.int .i64 0] rfl (fun h => by cases h) rfl (fun ad had => by cases had; exact new_one rfl) (by simp [Value.oneCell']) (by unfold maxLen; omega) (by omega) (by simp; omega) ?_)
            intro u' w9 hown' hgrow _
            have hb9 : Below W.heap.size W w9 := Below.grown (hb.alloc hsz _) hgrow (by simp; omega) (fun kk e => (HO1.out.lt kk e).1)
            have HO9 : Hid (w9.ownsRow W.heap.size 3 1 u' (RG ++ (List.range (j + 1)).map (locV E S x)).length ((RG ++ (List.range (j + 1)).map (locV E S x)).map (Value.int .i64))) := by rw [HLS.out, HLZ.out]; exact own_snoc hown'
            clear hgrow hown'
            go_wp2_with fail
            go_roundw
            case measure => simp [intOf]; omega
            case rel => exact ⟨j + 1, by omega, by go_num, HO9.out, hb9⟩
          · have hlp : 0 < l.length := List.length_pos_iff.2 hl0
            obtain ⟨a, hal1⟩ := get_of_lt (l := l) (k := l.length - 1) (by omega)
            obtain rfl := hal hl0
            have HLA : Hid (locV E S x j = valN E S D a) := hlv1 a hal1
            have HAE : Hid (EvI E.length a) := hlE a (List.mem_of_getElem? hal1)
            have q0 := hcl _ _ hal1
            unfold IntC at q0
            rw [Nat.mul_one] at q0
            have HV1 : Hid (∀ w', Below w.heap.size w w' → Calls Tryz.prog 77 #[.slice ao E.length cap, .agg #[.slice aof x.from'.length capf, .slice (some ⟨bo, offo, none⟩) x.order.length capo], .int .i64 a, .int .i64 D] w' fun e w'' => e = .returned (.int .i64 (valN E S D a)) ∧ Below w'.heap.size w' w'') := fun w' hb => HV.out a w' HAE.out hb
            generalize valN E S D a = val at HLA HV1
            have hlI : (0 : Int) < (l.length : Int) := by omega
            have hd1 : decide ((0 : Int) < (l.length : Int)) = true := by simp; omega
            have hsub : (l.length : Int) - 1 = ((l.length - 1 : Nat) : Int) := by omega
            have hsubI : ((l.length - 1 : Nat) : Int) < (l.length : Int) := by omega
            have hsw : IntKind.i64.wrap ((l.length - 1 : Nat) : Int) = ((l.length - 1 : Nat) : Int) := by rw [IntKind.wrap_i64]; omega
            generalize l.length - 1 = l1 at *
            generalize l.length = ln at *
            clear hlv0 hlv1 hcl hl hal hlE hal1
            go_wp2_with fail
            replace x0 := grown_cell x0
            replace x1 := grown_cell x1
            replace c0 := grown_cell c0
            replace q0 := grown_cell q0
            have hne := grw_some wr
            refine wp_region_grown (by kernel_rfl) (by kernel_rfl) ?_
            repeat (go_big_quiet_step ((go_at_call 77; exact grown_call (HV1.out _ (below_more hbw (Grw.low _))))))
            refine wpQuiet_nil ?_
            intro w7 hw7
            obtain ⟨⟨w7', hb7⟩, rfl⟩ := hw7
            clear x0 x1 c0 q0
            have HO7 : Hid (w7.ownsRow W.heap.size 3 1 u7 xs.length (xs.map (Value.int .i64))) := own_keep HO1.out hb7
            have hb8 := below_more hb hb7
            have hs8 := hb8.size
            clear HO1 hb hb7
            go_wp2_with (at_builtin; refine append_new _ rfl _ _ 26 rfl W.heap.size 3 i0 (.int .i64 0) 1 8 Tryz.underlying26 HI.out.1 HI.out.2.1 HI.out.2.2.1 HI.out.2.2.2 rfl (by decide) _ xs.length (xs.map (Value.int .i64)) rfl (HO7.out.alloc _) (some ⟨w7.heap.size, 0, none⟩) 1 1 [.int .i64 val] rfl (fun h => by cases h) rfl (fun ad had => by cases had; exact new_one rfl) (by simp [Value.oneCell']) (by unfold maxLen; omega) (by omega) (by simp; omega) ?_)
            intro u' w9 hown' hgrow _
            have hb9 : Below W.heap.size W w9 := Below.grown (hb8.alloc hs8 _) hgrow (by simp; omega) (fun kk e => (HO7.out.lt kk e).1)
            have HO9 : Hid (w9.ownsRow W.heap.size 3 1 u' (RG ++ (List.range (j + 1)).map (locV E S x)).length ((RG ++ (List.range (j + 1)).map (locV E S x)).map (Value.int .i64))) := by rw [HLS.out, HLA.out]; exact own_snoc hown'
            clear hgrow hown'
            go_wp2_with fail
            go_roundw
            case measure => simp [intOf]; omega
            case rel => exact ⟨j + 1, by omega, by go_num, HO9.out, hb9⟩
        · have hj2 : j = 3 := by omega
          subst hj2
          have HO1 := hown
          clear hown
          go_wp2_with fail
          go_ret
          have hsz := hba.size
          exact ⟨_, rfl, by rw [HRG.out]; exact owns_int (own_base HO1.out hsz), hbw⟩

end Go.Proofs.YtomijmikkbhgmaaGreat

namespace Go.Proofs.YtomijmikkbhgmaaGreat
open Go.RowKit

theorem flat_allF_len (acc : List (List Int)) (os : List (List Int)) : (acc.flatMap fun a => (allF os).map fun r => a ++ r).length = acc.length * plen os := by
  rw [flat_length _ (plen os) acc (fun a _ => by rw [List.length_map, allF_len])]

/-- One read more: each way so far with each of what it may read from. -/
def grow (O : List Int) (acc : List (List Int)) : List (List Int) := acc.flatMap fun a => O.map fun y => a ++ [y]

theorem grow_take {acc : List (List Int)} {j : Nat} {a : List Int} (h : acc[j]? = some a) (O : List Int) : grow O (acc.take (j + 1)) = grow O (acc.take j) ++ O.map fun y => a ++ [y] := by
  unfold grow; rw [take_snoc h, List.flatMap_append]; simp

theorem grow_mem {O : List Int} {acc : List (List Int)} {i : Nat} (h : ∀ a ∈ acc, a.length ≤ i) : ∀ a ∈ grow O acc, a.length ≤ i + 1 := by
  intro a ha
  obtain ⟨b, hb, hx⟩ := List.mem_flatMap.1 ha
  obtain ⟨y, _, rfl⟩ := List.mem_map.1 hx
  have := h b hb
  simp; omega

theorem lst_one (w : World) (t : TypeId) : SlAt (w.alloc (.cells #[.slice none 0 0] t)) 1 LC (.slice (some ⟨w.heap.size, 0, none⟩) 1 1) [[]] (some ⟨w.heap.size, 0, none⟩) w.heap.size 0 1 :=
  ⟨rfl, fun _ => rfl, fun h => by simp at h, fun k x h => by
    match k, h with
    | 0, h => simp at h; subst h; exact ⟨.slice none 0 0, by simp, (intAt_nil _ 0).at'⟩⟩

set_option maxHeartbeats 4000000 in
theorem froms_any (E : List Evt) (hE : E.length ≤ 96) (v : Value) (w : World) (h : Ev9At w v E) (hP : plen (rdo E E) ≤ 2000) :
    Calls Tryz.prog 128 #[v] w fun e w' => ∃ u, e = .returned u ∧ LstAt w' u (allF (rdo E E)) ∧ Below w.heap.size w w' := by
  have HE : Hid (Ev9At w v E) := h
  obtain ⟨ao, b, off, cap, hv, ha, _, hc⟩ := h
  subst hv
  obtain ⟨i0, hi, hz0, hz1, hz2⟩ := info_parts Tryz.infoInts
  have HI : Hid (Tryz.prog.info? 26 = some i0 ∧ i0.zero = some (.slice none 0 0) ∧ i0.size = 1 ∧ i0.bytes = 24) := ⟨hi, hz0, hz1, hz2⟩
  clear hi hz0 hz1 hz2
  have HC : Hid (∀ k x, E[k]? = some x → Ev9C w b (off + k * 9) x) := hc
  have HA : Hid (E ≠ [] → ao = some ⟨b, off, none⟩) := ha
  clear hc ha
  have hrl := rdsX_len E 0
  have HRG : Hid (∀ p ∈ rdsX E 0, E[p.1]? = some p.2) := fun p hp => by have := (rdsX_get hp).2; simpa using this
  have HRO : Hid (rdo E E = (rdsX E 0).map fun p => -1 :: wrs E 0 p.2.loc) := rdo_eq E E 0
  have HPL : Hid (plen (rdo E E) ≤ 2000) := hP
  generalize hF : allF (rdo E E) = F
  have HF : Hid (allF (rdo E E) = F) := hF
  have HFL : Hid (F.length ≤ 2000) := by unfold Hid; rw [← hF, allF_len]; exact hP
  clear hF hP
  have HRI : Hid (rdsI E 0 = (rdsX E 0).map fun p => (p.1 : Int)) := rfl
  generalize hPP : rdsX E 0 = P at hrl HRG HRO HRI
  clear hPP
  go_enter Tryz.func128, Tryz.ntmps128
  go_wp2_with fail
  refine (reads_any E hE _ _ (HE.out.keep (below_alloc _ _))).mono ?_
  rw [HRI.out]
  rintro e w3 ⟨u4, rfl, hu4, hb3⟩
  obtain ⟨ao4, b4, off4, cap4, hs4, _⟩ := hu4
  have hv4 := hs4.hv
  rw [List.length_map] at hv4
  subst hv4
  have HS4 : Hid (SlAt w3 1 IntC (.slice ao4 P.length cap4) (P.map fun p => (p.1 : Int)) ao4 b4 off4 cap4) := hs4
  have HA0 : Hid (SlAt w3 1 LC (.slice (some ⟨w.heap.size, 0, none⟩) 1 1) [[]] (some ⟨w.heap.size, 0, none⟩) w.heap.size 0 1) := (lst_one w 26).keep lc_keeps hb3
  have hbw3 := below_more (below_alloc _ _) hb3
  clear hb3 hs4
  go_wp2_with fail
  go_loopw [3, 5] (fun va i wr => ∃ (k : Nat) (acc : List (List Int)) (aoA : Option Addr) (bA offA capA : Nat), k ≤ P.length ∧ i = .int .i64 k ∧ va = .slice aoA acc.length capA ∧ SlAt wr 1 LC va acc aoA bA offA capA ∧ Hid (F = acc.flatMap fun a => (allF ((P.drop k).map fun p => -1 :: wrs E 0 p.2.loc)).map fun r => a ++ r) ∧ Hid (∀ a ∈ acc, a.length ≤ k) ∧ Below w3.heap.size w3 wr) (fun _ i _ => P.length - (intOf i).toNat)
  case atStart =>
    refine ⟨0, [[]], _, _, _, _, Nat.zero_le _, rfl, rfl, HA0.out, ?_, ?_, Below.refl _ _⟩
    · unfold Hid; rw [← HF.out, HRO.out, List.drop_zero]; simp
    · intro a ha; simp at ha; subst ha; simp
  case round =>
    obtain ⟨k, acc, aoA, bA, offA, capA, hk, rfl, rfl, hsA, hn, hmem, hb⟩ := hrel
    clear HA0
    have HSA : Hid (SlAt wr 1 LC (.slice aoA acc.length capA) acc aoA bA offA capA) := hsA
    have hbr := below_more hbw3 hb
    clear hsA
    by_cases hlt : k < P.length
    · obtain ⟨p, hp⟩ := get_of_lt hlt
      have hEx := HRG.out p (List.mem_of_getElem? hp)
      have hEk : p.1 < E.length := (List.getElem?_eq_some_iff.1 hEx).1
      obtain rfl := HA.out (ne_nil hEk)
      obtain ⟨_, _, _, d3, _, _, _, _, _⟩ := ev9C_keeps _ _ _ _ _ hbr (HC.out p.1 p.2 hEx)
      have hal : acc.length ≤ 2000 := by
        have h1 := congrArg List.length hn.out
        rw [flat_allF_len] at h1
        have h2 := HFL.out
        have h3 : 1 ≤ plen ((P.drop k).map fun p => -1 :: wrs E 0 p.2.loc) := plen_pos (fun o ho => by obtain ⟨q, _, rfl⟩ := List.mem_map.1 ho; simp)
        have := Nat.le_mul_of_pos_right acc.length h3
        omega
      have c0 := intC_keeps _ _ _ _ _ hb (HS4.out.hc k (p.1 : Int) (by rw [List.getElem?_map, hp]; rfl))
      unfold IntC at c0
      rw [Nat.mul_one] at c0
      have ha4 := HS4.out.ha (by intro h0; have := congrArg List.length h0; simp at this; subst this; simp at hlt)
      have hbl0 := World.block_lt_of_cell? _ _ c0
      have hbl3 := World.block_lt_of_cell? _ _ d3
      have HN : Hid (F = acc.flatMap fun a => (allF ((-1 :: wrs E 0 p.2.loc) :: ((P.drop (k + 1)).map fun p => -1 :: wrs E 0 p.2.loc))).map fun r => a ++ r) := hn.out.trans (by rw [drop_cons hp]; rfl)
      have hpI : (p.1 : Int) < (E.length : Int) := by omega
      have hkI : (k : Int) < (P.length : Int) := by omega
      subst ha4
      have hwl := wrs_len E 0 p.2.loc
      generalize hW : wrs E 0 p.2.loc = W at HN hwl
      have HW : Hid (wrs E 0 p.2.loc = W) := hW
      clear hn hp hW hEx
      go_wp2_with fail
      refine (writesR_any E hE p.2.loc _ _ (HE.out.keep hbr)).mono ?_
      rw [HW.out]
      rintro e w4 ⟨u6, rfl, hu6, hb4⟩
      obtain ⟨ao6, b6, off6, cap6, hs6, _⟩ := hu6
      have hv6 := hs6.hv
      subst hv6
      have HS6 : Hid (SlAt w4 1 IntC (.slice ao6 W.length cap6) W ao6 b6 off6 cap6) := hs6
      have HSA4 : Hid (SlAt w4 1 LC (.slice aoA acc.length capA) acc aoA bA offA capA) := HSA.out.keep lc_keeps hb4
      have HB4 : Hid (Below w3.heap.size w3 w4) := hb.trans (hb4.mono hb.size)
      clear hs6 hb4 c0 d3 hbr hb hbl0 hbl3 HSA
      go_wp2_with fail
      go_loopw [7, 8] (fun vm i wr => ∃ (j : Nat) (M : List (List Int)) (aoM : Option Addr) (capM : Nat) (vs : List Value), j ≤ acc.length ∧ i = .int .i64 j ∧ vm = .slice aoM M.length capM ∧ Hid (M = grow (-1 :: W) (acc.take j)) ∧ M.length ≤ 97 * j ∧ LL wr w4.heap.size (.slice aoM M.length capM) M vs ∧ Below w4.heap.size w4 wr) (fun _ i _ => acc.length - (intOf i).toNat)
      case atStart => exact ⟨0, [], none, 0, [], Nat.zero_le _, rfl, rfl, rfl, by simp, LL.nil _ _, Below.refl _ _⟩
      case round =>
        obtain ⟨j, M, aoM, capM, vs, hj, rfl, rfl, hM, hMl, hLL, hb⟩ := hrel
        have hsz := hb.size
        have HLL : Hid (LL wr w4.heap.size (.slice aoM M.length capM) M vs) := hLL
        clear hLL
        by_cases hlt2 : j < acc.length
        · obtain ⟨a, ha⟩ := get_of_lt hlt2
          obtain ⟨ua, c0, ia⟩ := lc_keeps _ _ _ _ _ hb (HSA4.out.hc j a ha)
          rw [Nat.mul_one] at c0
          have haA := HSA4.out.ha (ne_nil hlt2)
          subst haA
          have hal96 : a.length ≤ 96 := by have := hmem.out a (List.mem_of_getElem? ha); omega
          have HIA : Hid (IntAt wr ua a) := ia
          have HAJ : Hid (acc[j]? = some a) := ha
          have hjI : (j : Int) < (acc.length : Int) := by omega
          have hblA := World.block_lt_of_cell? _ _ c0
          clear ia ha
          go_wp2_with fail
          refine (longer_any a (by omega) (-1) ua _ HIA.out).mono ?_
          generalize hy9 : a ++ [-1] = y9
          have HY9 : Hid (a ++ [-1] = y9) := hy9
          clear hy9
          rintro e w5 ⟨u9, rfl, hu9, hb5⟩
          obtain ⟨ao9, cap9, hf9⟩ := hu9.1.at'.form
          subst hf9
          have HLL5 : Hid (LL w5 w4.heap.size (.slice aoM M.length capM) M vs) := HLL.out.keep hb5
          have hs5 := hb5.size
          have HU9 : Hid (IntCap w5 (.slice ao9 y9.length cap9) y9 ∧ ∀ g, (Value.slice ao9 y9.length cap9).ownBlock = some g → w4.heap.size ≤ g ∧ g < w5.heap.size ∧ (Value.slice aoM M.length capM).ownBlock ≠ some g) :=
            ⟨hu9.1.cap, fun g hg => ⟨by have := (hu9.2 g hg).1; omega, (hu9.2 g hg).2, fun e => by have := (HLL.out.own.lt g e).2; have := (hu9.2 g hg).1; omega⟩⟩
          have HB5 : Hid (Below w4.heap.size w4 w5) := hb.trans (hb5.mono hsz)
          clear hu9 hb5 c0 HLL hb
          go_wp2_with (at_builtin; refine append_new _ rfl (.tmp 41) (.tmp 43) 27 rfl w4.heap.size 26 i0 (.slice none 0 0) 1 24 Tryz.underlying27 HI.out.1 HI.out.2.1 HI.out.2.2.1 HI.out.2.2.2 rfl (by decide) (.slice aoM M.length capM) M.length vs rfl (HLL5.out.own.alloc _) (some ⟨w5.heap.size, 0, none⟩) 1 1 [.slice ao9 y9.length cap9] rfl (fun h => by cases h) rfl (fun ad had => by cases had; exact new_one rfl) (by simp [Value.oneCell']) (by unfold maxLen; omega) (by omega) (by simp; omega) ?_)
          intro V6 w6 hown6 hgrow6 hap6
          obtain ⟨ao7, cap7, hf7, _⟩ := own_form hown6
          have hap7 : ∀ g, V6.ownBlock = some g → (Value.slice aoM M.length capM).ownBlock = some g ∨ w5.heap.size + 1 ≤ g := by simpa using hap6
          have HLL6 : Hid (LL w6 w4.heap.size V6 (M ++ [y9]) (vs ++ [.slice ao9 y9.length cap9])) := HLL5.out.snoc HU9.out.1 HU9.out.2 hown6 hgrow6 hap7
          have HB6 : Hid (Below w4.heap.size w4 w6) := Below.grown (HB5.out.alloc HB5.out.size _) hgrow6 (by simp; omega) (fun kk e => (HLL5.out.own.lt kk e).1)
          have HM6 : Hid (M ++ [y9] = grow (-1 :: W) (acc.take j) ++ ((-1 :: W).take 1).map fun y => a ++ [y]) := by unfold Hid; rw [← HY9.out, hM.out]; rfl
          have hM6 : (M ++ [y9]).length ≤ 97 * j + 1 := by simp; omega
          have hf8 : (M ++ [y9]).length = M.length + 1 := by simp
          rw [← hf8] at hf7
          generalize M ++ [y9] = M1 at HLL6 HM6 hM6 hf7
          subst hf7
          clear hown6 hgrow6 hap6 hap7 HLL5 HU9 HB5 hf8
          clear HIA hblA
          generalize hG : grow (-1 :: W) (acc.take j) = G at HM6
          have HG : Hid (grow (-1 :: W) (acc.take j) = G) := hG
          clear hG hM
          go_wp2_with fail
          go_loopw [7, 10] (fun vm i wr => ∃ (m : Nat) (M : List (List Int)) (aoM : Option Addr) (capM : Nat) (vs : List Value), m ≤ W.length ∧ i = .int .i64 m ∧ vm = .slice aoM M.length capM ∧ Hid (M = G ++ ((-1 :: W).take (m + 1)).map fun y => a ++ [y]) ∧ M.length ≤ 97 * j + 1 + m ∧ LL wr w4.heap.size (.slice aoM M.length capM) M vs ∧ Below w4.heap.size w4 wr) (fun _ i _ => W.length - (intOf i).toNat)
          case atStart => exact ⟨0, M1, ao7, cap7, _, Nat.zero_le _, rfl, rfl, HM6.out, by omega, HLL6.out, HB6.out⟩
          case round =>
            clear HLL6 HB6 HM6 hM6
            obtain ⟨m, M2, aoM2, capM2, vs2, hm, rfl, rfl, hM2, hM2l, hLL2, hb⟩ := hrel
            have hsz2 := hb.size
            have HLL : Hid (LL wr w4.heap.size (.slice aoM2 M2.length capM2) M2 vs2) := hLL2
            clear hLL2
            by_cases hlt3 : m < W.length
            · obtain ⟨y, hy⟩ := get_of_lt hlt3
              obtain ⟨ua2, c0, ia⟩ := lc_keeps _ _ _ _ _ hb (HSA4.out.hc j a HAJ.out)
              rw [Nat.mul_one] at c0
              have HIA : Hid (IntAt wr ua2 a) := ia
              have d0 := intC_keeps _ _ _ _ _ hb (HS6.out.hc m y hy)
              unfold IntC at d0
              rw [Nat.mul_one] at d0
              have ha6 := HS6.out.ha (ne_nil hlt3)
              subst ha6
              have HMN : Hid (M2 ++ [a ++ [y]] = G ++ ((-1 :: W).take (m + 1 + 1)).map fun y => a ++ [y]) := by
                unfold Hid
                rw [hM2.out, take_snoc (l := -1 :: W) (k := m + 1) (x := y) (by simpa using hy)]
                simp
              have hmI : (m : Int) < (W.length : Int) := by omega
              generalize hy9 : a ++ [y] = y8 at HMN
              have HY8 : Hid (a ++ [y] = y8) := hy9
              clear ia hy hM2 hy9
              go_wp2_with fail
              go_region_with (go_at_call 159; refine (longer_any a (by omega) y ua2 _ (HIA.out.keep (Below.refl _ _).drew)).mono ?_; rw [HY8.out]; rintro e w7 ⟨u9, rfl, hu9, hb7⟩)
              all_goals
                obtain ⟨ao9, cap9, hf9⟩ := hu9.1.at'.form
                subst hf9
                have hb7' : Below wr.heap.size wr w7 := (Below.refl _ _).drew.trans hb7
                have HLL5 : Hid (LL w7 w4.heap.size (.slice aoM2 M2.length capM2) M2 vs2) := HLL.out.keep hb7'
                have hs5 := hb7'.size
                have HU9 : Hid (IntCap w7 (.slice ao9 y8.length cap9) y8 ∧ ∀ g, (Value.slice ao9 y8.length cap9).ownBlock = some g → w4.heap.size ≤ g ∧ g < w7.heap.size ∧ (Value.slice aoM2 M2.length capM2).ownBlock ≠ some g) :=
                  ⟨hu9.1.cap, fun g hg => ⟨by have h1 : wr.heap.size ≤ g := (hu9.2 g hg).1; omega, (hu9.2 g hg).2, fun e => by have := (HLL.out.own.lt g e).2; have h1 : wr.heap.size ≤ g := (hu9.2 g hg).1; omega⟩⟩
                have HB7 : Hid (Below w4.heap.size w4 w7) := hb.trans (hb7'.mono hsz2)
                clear hu9 hb7 hb7' c0 d0 HLL hb HIA
                go_wp2_with (at_builtin; refine append_new _ rfl (.tmp 60) (.tmp 62) 27 rfl w4.heap.size 26 i0 (.slice none 0 0) 1 24 Tryz.underlying27 HI.out.1 HI.out.2.1 HI.out.2.2.1 HI.out.2.2.2 rfl (by decide) (.slice aoM2 M2.length capM2) M2.length vs2 rfl (HLL5.out.own.alloc _) (some ⟨w7.heap.size, 0, none⟩) 1 1 [.slice ao9 y8.length cap9] rfl (fun h => by cases h) rfl (fun ad had => by cases had; exact new_one rfl) (by simp [Value.oneCell']) (by unfold maxLen; omega) (by omega) (by simp; omega) ?_)
                intro V8 w8 hown8 hgrow8 hap8
                obtain ⟨ao8, cap8, hf8, _⟩ := own_form hown8
                have hap9 : ∀ g, V8.ownBlock = some g → (Value.slice aoM2 M2.length capM2).ownBlock = some g ∨ w7.heap.size + 1 ≤ g := by simpa using hap8
                have HLL8 : Hid (LL w8 w4.heap.size V8 (M2 ++ [y8]) (vs2 ++ [.slice ao9 y8.length cap9])) := HLL5.out.snoc HU9.out.1 HU9.out.2 hown8 hgrow8 hap9
                have HB8 : Hid (Below w4.heap.size w4 w8) := Below.grown (HB7.out.alloc HB7.out.size _) hgrow8 (by simp; omega) (fun kk e => (HLL5.out.own.lt kk e).1)
                have hM8 : (M2 ++ [y8]).length ≤ 97 * j + 1 + (m + 1) := by simp; omega
                have hf10 : (M2 ++ [y8]).length = M2.length + 1 := by simp
                rw [← hf10] at hf8
                generalize M2 ++ [y8] = M3 at HLL8 HMN hM8 hf8
                subst hf8
                clear hown8 hgrow8 hap8 hap9 HLL5 HU9 HB7 hf10
                go_wp2_with fail
                go_roundw
                case measure => simp [intOf]; omega
                case rel => exact ⟨m + 1, M3, ao8, cap8, _, by omega, by go_num, rfl, HMN.out, by omega, HLL8.out, HB8.out⟩
            · have hmW : m = W.length := by omega
              subst hmW
              have HMN : Hid (M2 = grow (-1 :: W) (acc.take (j + 1))) := by
                unfold Hid
                rw [hM2.out, grow_take HAJ.out, HG.out, List.take_of_length_le (by simp)]
              clear hM2
              go_wp2_with fail
              go_roundw
              case measure => simp [intOf]; omega
              case rel => exact ⟨j + 1, M2, aoM2, capM2, vs2, by omega, by go_num, rfl, HMN.out, by omega, HLL.out, hb⟩
        · have HMM : Hid (M = grow (-1 :: W) acc) := hM.out.trans (by rw [List.take_of_length_le (by omega)])
          have HFN : Hid (F = M.flatMap fun a => (allF ((P.drop (k + 1)).map fun p => -1 :: wrs E 0 p.2.loc)).map fun r => a ++ r) := HN.out.trans (by rw [allF_step, HMM.out]; rfl)
          have HME : Hid (∀ a ∈ M, a.length ≤ k + 1) := by unfold Hid; rw [HMM.out]; exact grow_mem hmem.out
          obtain ⟨aoN, bN, offN, capN, hsN⟩ := HLL.out.read.at'
          have hvN := hsN.hv
          simp only [Value.slice.injEq] at hvN
          obtain ⟨rfl, -, rfl⟩ := hvN
          have HSN : Hid (SlAt wr 1 LC (.slice aoM M.length capM) M aoM bN offN capM) := hsN
          have HBN : Hid (Below w3.heap.size w3 wr) := HB4.out.trans (hb.mono HB4.out.size)
          clear hsN hM hmem
          go_wp2_with fail
          go_roundw
          case measure => simp [intOf]; omega
          case rel => exact ⟨k + 1, M, aoM, bN, offN, capM, by omega, by go_num, rfl, HSN.out, HFN.out, HME.out, HBN.out⟩
    · have HFF : Hid (F = acc) := hn.out.trans (by rw [drop_nil hlt]; exact allF_done acc)
      clear hn
      go_wp2_with fail
      go_ret
      exact ⟨_, rfl, by rw [HFF.out]; exact ⟨_, _, _, _, HSA.out⟩, hbr⟩

end Go.Proofs.YtomijmikkbhgmaaGreat
