import Derived.Test.YtomijmikkbhgmaaGreatT10
import Derived.Test.YtomijmikkbhgmaaGreatT7
namespace Go.Proofs.YtomijmikkbhgmaaGreat
open Go.RowKit

/-- A state, or nil. -/
def OptV (w : World) (u : Value) : Option (List Int) → Prop
  | none => u = .slice none 0 0
  | some l => IntAt w u l ∧ l ≠ []
def OptC (w : World) (b off : Nat) (o : Option (List Int)) : Prop := ∃ u, w.cell? ⟨b, off, none⟩ = some u ∧ OptV w u o
def OptAt (w : World) (v : Value) (L : List (Option (List Int))) : Prop := ∃ ao b off cap, SlAt w 1 OptC v L ao b off cap

theorem IntAt.drN {w : World} {v : Value} {l : List Int} (h : IntAt w v l) (n : Nat) : IntAt (w.drewN n) v l := h.keep (below_drN (Below.refl _ w) n)
theorem OptV.drewN {w : World} {u : Value} {o : Option (List Int)} (h : OptV w u o) (n : Nat) : OptV (w.drewN n) u o := by
  cases o with
  | none => exact h
  | some l => exact ⟨h.1.drN n, h.2⟩

/-- One state more: is it the least so far of those that are greater than one? -/
def lstep (than best o : Option (List Int)) : Option (List Int) := match o with
  | none => best
  | some l => if (match than with | none => false | some t => decide (cmpL l t ≤ 0)) then best else match best with
    | none => some l
    | some b => if decide (0 ≤ cmpL l b) then best else some l
def leastO (than : Option (List Int)) (best : Option (List Int)) : List (Option (List Int)) → Option (List Int)
  | [] => best
  | o :: L => leastO than (lstep than best o) L

/-- States of one length, of small numbers. -/
def StOk (n : Nat) (o : Option (List Int)) : Prop := ∀ l, o = some l → l.length = n ∧ Small l

theorem lstep_ok {n : Nat} {than best o : Option (List Int)} (h1 : StOk n best) (h2 : StOk n o) : StOk n (lstep than best o) := by
  have : lstep than best o = best ∨ lstep than best o = o := by
    unfold lstep
    cases o with
    | none => exact .inl rfl
    | some l =>
      cases than with
      | none =>
        cases best with
        | none => exact .inr rfl
        | some b =>
          simp only
          by_cases h : 0 ≤ cmpL l b <;> simp [h]
      | some t =>
        cases best with
        | none =>
          simp only
          by_cases h : cmpL l t ≤ 0 <;> simp [h]
        | some b =>
          simp only
          by_cases h : cmpL l t ≤ 0 <;> by_cases h' : 0 ≤ cmpL l b <;> simp [h, h']
  rcases this with e | e <;> rw [e] <;> assumption

theorem OptV.form {w : World} {u : Value} {l : List Int} (h : OptV w u (some l)) : ∃ a cap, u = .slice (some a) l.length cap := by
  obtain ⟨⟨ao, b, off, cap, hv, ha, _, _⟩, hne⟩ := h
  exact ⟨_, cap, by rw [hv, ha hne]⟩

set_option maxRecDepth 20000 in
set_option maxHeartbeats 1000000 in
theorem least_any (n : Nat) (hn : n ≤ 1000) (L : List (Option (List Int))) (hL : L.length ≤ 5000) (hok : ∀ o ∈ L, StOk n o) (than : Option (List Int)) (hth : StOk n than) (v u : Value) (w0 w : World) (hb0 : Below w0.heap.size w0 w) (hv : OptAt w0 v L) (hu : OptV w0 u than) :
    Calls Tryz.prog 47 #[v, u] w fun e w' => ∃ r, e = .returned r ∧ OptV w0 r (leastO than none L) ∧ StOk n (leastO than none L) ∧ ∃ m, w' = w.drewN m := by
  obtain ⟨ao, b, off, cap, hv1, ha, _, hc⟩ := hv
  subst hv1
  have q1 : ∀ (w : World) (a : Addr) (n c n' c' : Nat), (binOp .eql 26 (.slice (some a) n c) (.slice none n' c')).run Tryz.prog w = .ok (.bool false) w := fun w a n c n' c' => Lib.run_eql_slice_nil w _ _ (some a) n c n' c' Tryz.underlying26
  have q2 : ∀ (w : World) (n c n' c' : Nat), (binOp .eql 26 (.slice none n c) (.slice none n' c')).run Tryz.prog w = .ok (.bool true) w := fun w n c n' c' => Lib.run_eql_slice_nil w _ _ none n c n' c' Tryz.underlying26
  have q3 : ∀ (w : World) (a : Addr) (n c n' c' : Nat), (binOp .neq 26 (.slice (some a) n c) (.slice none n' c')).run Tryz.prog w = .ok (.bool true) w := fun w a n c n' c' => run_neq_slice_nil_any w _ _ (some a) n c n' c' Tryz.underlying26
  have q4 : ∀ (w : World) (n c n' c' : Nat), (binOp .neq 26 (.slice none n c) (.slice none n' c')).run Tryz.prog w = .ok (.bool false) w := fun w n c n' c' => run_neq_slice_nil_any w _ _ none n c n' c' Tryz.underlying26
  have HC : Hid (∀ k o, L[k]? = some o → ∃ u, w.cell? ⟨b, off + k, none⟩ = some u ∧ OptV w0 u o) := fun k o hk => by
    obtain ⟨u, h1, h2⟩ := hc k o hk
    rw [Nat.mul_one] at h1
    exact ⟨u, keep_cell hb0 h1, h2⟩
  have HCMP : Hid (∀ (l m : List Int) (u v : Value) (j : Nat), StOk n (some l) → StOk n (some m) → IntAt w0 u l → IntAt w0 v m → Calls Tryz.prog 48 #[u, v] (w.drewN j) fun e w'' => e = .returned (.int .i64 (cmpL l m)) ∧ ∃ k, w'' = w.drewN k) := fun l m u v j h1 h2 hu hv => by
    obtain ⟨a1, a2⟩ := h1 l rfl
    obtain ⟨b1, b2⟩ := h2 m rfl
    refine (compare_any l m (by omega) (by omega) a2 b2 u v (w.drewN j) ((hu.keep hb0).drN j) ((hv.keep hb0).drN j)).mono ?_
    rintro e w' ⟨rfl, k, rfl⟩
    exact ⟨rfl, _, by rw [World.drewN_drewN]⟩
  have HOK : Hid ((∀ o ∈ L, StOk n o) ∧ StOk n than) := ⟨hok, hth⟩
  have HB : Hid (leastO than none L = leastO than none (L.drop 0)) := rfl
  generalize leastO than none L = B at HB ⊢
  clear hc hok hth
  cases than with
  | none =>
    have hu0 : u = .slice none 0 0 := hu
    subst hu0
    go_enter Tryz.func47, Tryz.ntmps47
    go_wp2_with fail
    go_loopw [5, 6] (fun bst i wr => ∃ (k nn : Nat) (best : Option (List Int)), k ≤ L.length ∧ i = .int .i64 k ∧ Hid (OptV w0 bst best ∧ StOk n best ∧ B = leastO none best (L.drop k)) ∧ wr = w.drewN nn) (fun _ i _ => L.length - (intOf i).toNat)
    case atStart => exact ⟨0, 0, none, Nat.zero_le _, rfl, ⟨rfl, fun l h => (by cases h), HB.out⟩, rfl⟩
    case round =>
      clear HB
      obtain ⟨k, nn, best, hk, rfl, hbst, hwr⟩ := hrel
      subst hwr
      by_cases hlt : k < L.length
      · obtain ⟨o, hko⟩ := get_of_lt hlt
        obtain rfl := ha (ne_nil hlt)
        obtain ⟨uo, c0, huo⟩ := HC.out k o hko
        have hkI : (k : Int) < (L.length : Int) := by omega
        have hoo := HOK.out.1 o (List.mem_of_getElem? hko)
        have HN : Hid (B = leastO none (lstep none best o) (L.drop (k + 1))) := hbst.out.2.2.trans (by rw [drop_cons hko]; rfl)
        clear hko
        cases o with
        | none =>
          have hu0 : uo = .slice none 0 0 := huo
          subst hu0
          have HB2 : Hid (OptV w0 u5 best ∧ StOk n best ∧ B = leastO none best (L.drop (k + 1))) := ⟨hbst.out.1, hbst.out.2.1, HN.out⟩
          clear hbst huo HN
          go_wp2_with fail
          go_roundw
          case measure => simp [intOf]; omega
          case rel => exact ⟨k + 1, _, best, by omega, by go_num, HB2, rfl⟩
        | some l =>
          obtain ⟨al, capl, hul⟩ := OptV.form huo
          subst hul
          have HUL : Hid (OptV w0 (.slice (some al) l.length capl) (some l) ∧ StOk n (some l)) := ⟨huo, hoo⟩
          clear huo hoo
          cases best with
          | none =>
            have hb0 : u5 = .slice none 0 0 := hbst.out.1
            subst hb0
            have HB2 : Hid (OptV w0 (.slice (some al) l.length capl) (some l) ∧ StOk n (some l) ∧ B = leastO none (some l) (L.drop (k + 1))) := ⟨HUL.out.1, HUL.out.2, HN.out.trans (by rfl)⟩
            clear hbst HN
            go_wp2_with fail
            go_roundw
            case measure => simp [intOf]; omega
            case rel => exact ⟨k + 1, _, some l, by omega, by go_num, HB2, rfl⟩
          | some bl =>
            obtain ⟨ab, capb, hub⟩ := OptV.form hbst.out.1
            subst hub
            have HCC := HCMP.out l bl (.slice (some al) l.length capl) (.slice (some ab) bl.length capb) nn HUL.out.2 hbst.out.2.1 HUL.out.1.1 hbst.out.1.1
            have HN2 : Hid (B = leastO none (if decide (0 ≤ cmpL l bl) then some bl else some l) (L.drop (k + 1))) := HN.out.trans (by rfl)
            have HBO : Hid (OptV w0 (.slice (some ab) bl.length capb) (some bl) ∧ StOk n (some bl)) := ⟨hbst.out.1, hbst.out.2.1⟩
            generalize cmpL l bl = cm at HCC HN2
            clear hbst HN
            go_wp2_with fail
            refine HCC.mono ?_
            clear HCC
            rintro e w5 ⟨rfl, k5, rfl⟩
            by_cases hcm : 0 ≤ cm
            · have HB2 : Hid (OptV w0 (.slice (some ab) bl.length capb) (some bl) ∧ StOk n (some bl) ∧ B = leastO none (some bl) (L.drop (k + 1))) := ⟨HBO.out.1, HBO.out.2, HN2.out.trans (by simp [hcm])⟩
              clear HN2
              go_wp2_with fail
              go_roundw
              case measure => simp [intOf]; omega
              case rel => exact ⟨k + 1, _, some bl, by omega, by go_num, HB2, rfl⟩
            · have HB2 : Hid (OptV w0 (.slice (some al) l.length capl) (some l) ∧ StOk n (some l) ∧ B = leastO none (some l) (L.drop (k + 1))) := ⟨HUL.out.1, HUL.out.2, HN2.out.trans (by simp [hcm])⟩
              clear HN2
              go_wp2_with fail
              go_roundw
              case measure => simp [intOf]; omega
              case rel => exact ⟨k + 1, _, some l, by omega, by go_num, HB2, rfl⟩
      · have HM : Hid (B = best ∧ OptV w0 u5 best ∧ StOk n best) := ⟨hbst.out.2.2.trans (by rw [drop_nil hlt]; rfl), hbst.out.1, hbst.out.2.1⟩
        have hkI : (L.length : Int) ≤ (k : Int) := by omega
        clear hbst
        go_wp2_with fail
        go_ret
        exact ⟨_, rfl, by rw [HM.out.1]; exact HM.out.2.1, by rw [HM.out.1]; exact HM.out.2.2, _, rfl⟩
  | some th =>
    obtain ⟨at1, capt, hut⟩ := OptV.form hu
    subst hut
    have HT : Hid (OptV w0 (.slice (some at1) th.length capt) (some th)) := hu
    clear hu
    go_enter Tryz.func47, Tryz.ntmps47
    go_wp2_with fail
    go_loopw [5, 6] (fun bst i wr => ∃ (k nn : Nat) (best : Option (List Int)), k ≤ L.length ∧ i = .int .i64 k ∧ Hid (OptV w0 bst best ∧ StOk n best ∧ B = leastO (some th) best (L.drop k)) ∧ wr = w.drewN nn) (fun _ i _ => L.length - (intOf i).toNat)
    case atStart => exact ⟨0, 0, none, Nat.zero_le _, rfl, ⟨rfl, fun l h => (by cases h), HB.out⟩, rfl⟩
    case round =>
      clear HB
      obtain ⟨k, nn, best, hk, rfl, hbst, hwr⟩ := hrel
      subst hwr
      by_cases hlt : k < L.length
      · obtain ⟨o, hko⟩ := get_of_lt hlt
        obtain rfl := ha (ne_nil hlt)
        obtain ⟨uo, c0, huo⟩ := HC.out k o hko
        have hkI : (k : Int) < (L.length : Int) := by omega
        have hoo := HOK.out.1 o (List.mem_of_getElem? hko)
        have HN : Hid (B = leastO (some th) (lstep (some th) best o) (L.drop (k + 1))) := hbst.out.2.2.trans (by rw [drop_cons hko]; rfl)
        clear hko
        cases o with
        | none =>
          have hu0 : uo = .slice none 0 0 := huo
          subst hu0
          have HB2 : Hid (OptV w0 u5 best ∧ StOk n best ∧ B = leastO (some th) best (L.drop (k + 1))) := ⟨hbst.out.1, hbst.out.2.1, HN.out⟩
          clear hbst huo HN
          go_wp2_with fail
          go_roundw
          case measure => simp [intOf]; omega
          case rel => exact ⟨k + 1, _, best, by omega, by go_num, HB2, rfl⟩
        | some l =>
          obtain ⟨al, capl, hul⟩ := OptV.form huo
          subst hul
          have HUL : Hid (OptV w0 (.slice (some al) l.length capl) (some l) ∧ StOk n (some l)) := ⟨huo, hoo⟩
          clear huo hoo
          have HCT := HCMP.out l th (.slice (some al) l.length capl) (.slice (some at1) th.length capt) nn HUL.out.2 HOK.out.2 HUL.out.1.1 HT.out.1
          have hct : decide (cmpL l th ≤ 0) = decide (cmpL l th ≤ 0) := rfl
          generalize hg : cmpL l th = ct at HCT hct
          by_cases hle : ct ≤ 0
          · have HB2 : Hid (OptV w0 u5 best ∧ StOk n best ∧ B = leastO (some th) best (L.drop (k + 1))) := ⟨hbst.out.1, hbst.out.2.1, HN.out.trans (by simp [lstep, hg, hle])⟩
            clear hbst HN hg hct
            go_wp2_with fail
            refine HCT.mono ?_
            clear HCT
            rintro e w5 ⟨rfl, k4, rfl⟩
            go_wp2_with fail
            go_roundw
            case measure => simp [intOf]; omega
            case rel => exact ⟨k + 1, _, best, by omega, by go_num, HB2, rfl⟩
          · replace HN : Hid (B = leastO (some th) (lstep none best (some l)) (L.drop (k + 1))) := HN.out.trans (by simp [lstep, hg, hle])
            clear hg hct
            go_wp2_with fail
            refine HCT.mono ?_
            clear HCT
            rintro e w5 ⟨rfl, k4, rfl⟩
            cases best with
            | none =>
              have hb0 : u5 = .slice none 0 0 := hbst.out.1
              subst hb0
              have HB2 : Hid (OptV w0 (.slice (some al) l.length capl) (some l) ∧ StOk n (some l) ∧ B = leastO (some th) (some l) (L.drop (k + 1))) := ⟨HUL.out.1, HUL.out.2, HN.out.trans (by rfl)⟩
              clear hbst HN
              go_wp2_with fail
              go_roundw
              case measure => simp [intOf]; omega
              case rel => exact ⟨k + 1, _, some l, by omega, by go_num, HB2, rfl⟩
            | some bl =>
              obtain ⟨ab, capb, hub⟩ := OptV.form hbst.out.1
              subst hub
              have HCC := HCMP.out l bl (.slice (some al) l.length capl) (.slice (some ab) bl.length capb) k4 HUL.out.2 hbst.out.2.1 HUL.out.1.1 hbst.out.1.1
              have HN2 : Hid (B = leastO (some th) (if decide (0 ≤ cmpL l bl) then some bl else some l) (L.drop (k + 1))) := HN.out.trans (by rfl)
              have HBO : Hid (OptV w0 (.slice (some ab) bl.length capb) (some bl) ∧ StOk n (some bl)) := ⟨hbst.out.1, hbst.out.2.1⟩
              generalize cmpL l bl = cm at HCC HN2
              clear hbst HN
              go_wp2_with fail
              refine HCC.mono ?_
              clear HCC
              rintro e w5 ⟨rfl, k5, rfl⟩
              by_cases hcm : 0 ≤ cm
              · have HB2 : Hid (OptV w0 (.slice (some ab) bl.length capb) (some bl) ∧ StOk n (some bl) ∧ B = leastO (some th) (some bl) (L.drop (k + 1))) := ⟨HBO.out.1, HBO.out.2, HN2.out.trans (by simp [hcm])⟩
                clear HN2
                go_wp2_with fail
                go_roundw
                case measure => simp [intOf]; omega
                case rel => exact ⟨k + 1, _, some bl, by omega, by go_num, HB2, rfl⟩
              · have HB2 : Hid (OptV w0 (.slice (some al) l.length capl) (some l) ∧ StOk n (some l) ∧ B = leastO (some th) (some l) (L.drop (k + 1))) := ⟨HUL.out.1, HUL.out.2, HN2.out.trans (by simp [hcm])⟩
                clear HN2
                go_wp2_with fail
                go_roundw
                case measure => simp [intOf]; omega
                case rel => exact ⟨k + 1, _, some l, by omega, by go_num, HB2, rfl⟩
      · have HM : Hid (B = best ∧ OptV w0 u5 best ∧ StOk n best) := ⟨hbst.out.2.2.trans (by rw [drop_nil hlt]; rfl), hbst.out.1, hbst.out.2.1⟩
        have hkI : (L.length : Int) ≤ (k : Int) := by omega
        clear hbst
        go_wp2_with fail
        go_ret
        exact ⟨_, rfl, by rw [HM.out.1]; exact HM.out.2.1, by rw [HM.out.1]; exact HM.out.2.2, _, rfl⟩

end Go.Proofs.YtomijmikkbhgmaaGreat
