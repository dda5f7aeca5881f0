import Derived.Test.YtomijmikkbhgmaaGreatT34
import Derived.Test.YtomijmikkbhgmaaGreatLt
import Derived.Deep.CutRange
import Derived.Deep.RegionWith
import Derived.Test.YtomijmikkbhgmaaGreatT9
import Derived.Test.YtomijmikkbhgmaaGreatT15
import Derived.Test.YtomijmikkbhgmaaGreatT17
namespace Go.Proofs.YtomijmikkbhgmaaGreat
open Go.RowKit

set_option maxRecDepth 20000 in
set_option maxHeartbeats 2000000 in
theorem judged_any (T : List (List Ins)) (fa : Bool) (c : List Atm) (vt vc : Value) (x : Exe) (hfit : XFits x) (vf vo : Value) (w : World) (h : TestAt w (.agg #[vt, .bool fa, vc]) T fa c vt vc) (hx : ExeC w vf vo x) :
    Calls Tryz.prog 13 #[.agg #[vt, .bool fa, vc], .agg #[vf, vo]] w fun e w' => e = .returned (.bool true) ∧ Below w.heap.size w w' := by
  have HC1 : Hid (∀ w', Below w.heap.size w w' → Calls Tryz.prog 17 #[.agg #[vt, .bool fa, vc]] w' fun e w'' => ∃ vt' vc', e = .returned (.agg #[vt', .bool fa, vc']) ∧ Hid (TestAt w'' (.agg #[vt', .bool fa, vc']) T fa c vt' vc') ∧ Below w'.heap.size w' w'') := fun w' hb => copy_any T fa c _ vt vc w' (h.keep hb)
  have HC2 : Hid (∀ w', Below w.heap.size w w' → Calls Tryz.prog 18 #[.agg #[vf, vo]] w' fun e w'' => ∃ vf' vo', e = .returned (.agg #[vf', vo']) ∧ Hid (ExeAt w'' vf' vo' x) ∧ Below w'.heap.size w' w'') := fun w' hb => copied_any x hfit vf vo w' (hx.at'.keep hb)
  have HC3 : Hid (∀ w' vt' vc' vf' vo', TestAt w' (.agg #[vt', .bool fa, vc']) T fa c vt' vc' → ExeAt w' vf' vo' x → Calls Tryz.prog 30 #[.agg #[vt', .bool fa, vc'], .agg #[vf', vo']] w' fun e w'' => ∃ r er : Int, e = .returned (.tuple #[.int .i64 r, .int .i64 er]) ∧ Hid (JOut T c x r er) ∧ Below w'.heap.size w' w'') := fun w' vt' vc' vf' vo' ht hx => judgeP_any T fa c vt' vc' x vf' vo' w' ht hx
  have HC4 : Hid (∀ w', Below w.heap.size w w' → Calls Tryz.prog 31 #[.agg #[vt, .bool fa, vc], .agg #[vf, vo]] w' fun e w'' => ∃ r er : Int, e = .returned (.tuple #[.int .i64 r, .int .i64 er]) ∧ Hid (JOut T c x r er) ∧ Below w'.heap.size w' w'') := fun w' hb => judgeR_any T fa c vt vc x vf vo w' (h.keep hb) (hx.keep hb)
  have HONE : Hid (∀ r er r' er', JOut T c x r er → JOut T c x r' er' → r = r' ∧ er = er') := fun _ _ _ _ h k => h.one k
  generalize JOut T c x = J at HC3 HC4 HONE
  obtain ⟨aof, capf, hvf⟩ := hx.f.form
  obtain ⟨aoo, bo, offo, capo, hso⟩ := hx.o
  have hvo := hso.hv
  subst hvf hvo
  obtain ⟨ht0, aot, bt, offt, capt, htv, _⟩ := h.ht.opened
  obtain ⟨hc0, aoc, bc, offc, capc, hsc⟩ := h.hc
  have hcv := hsc.hv
  subst htv hcv
  clear hso hx h hsc
  go_enter Tryz.func13, Tryz.ntmps13
  go_upto_region 1 with fail
  have hba := below_two w (.cells #[.slice aot T.length capt, .bool fa, .slice aoc c.length capc] 25) (.cells #[.slice aof x.from'.length capf, .slice aoo x.order.length capo] 29)
  have HTX : Hid (∀ w', Below (w.heap.size + 1 + 1) ((w.alloc (.cells #[.slice aot T.length capt, .bool fa, .slice aoc c.length capc] 25)).alloc (.cells #[.slice aof x.from'.length capf, .slice aoo x.order.length capo] 29)) w' → w'.cell? ⟨w.heap.size, 0, none⟩ = some (.slice aot T.length capt) ∧ w'.cell? ⟨w.heap.size, 1, none⟩ = some (.bool fa) ∧ w'.cell? ⟨w.heap.size, 2, none⟩ = some (.slice aoc c.length capc) ∧ w'.cell? ⟨w.heap.size + 1, 0, none⟩ = some (.slice aof x.from'.length capf) ∧ w'.cell? ⟨w.heap.size + 1, 1, none⟩ = some (.slice aoo x.order.length capo)) := fun w' hb => by
    have h1 := hb.cell (p := ⟨w.heap.size, 0, none⟩) (by simp; omega)
    have h2 := hb.cell (p := ⟨w.heap.size, 1, none⟩) (by simp; omega)
    have h3 := hb.cell (p := ⟨w.heap.size, 2, none⟩) (by simp; omega)
    have h4 := hb.cell (p := ⟨w.heap.size + 1, 0, none⟩) (by simp)
    have h5 := hb.cell (p := ⟨w.heap.size + 1, 1, none⟩) (by simp)
    exact ⟨h1.trans (by simp), h2.trans (by simp), h3.trans (by simp), h4.trans (by simp), h5.trans (by simp)⟩
  have hsW : ((w.alloc (.cells #[.slice aot T.length capt, .bool fa, .slice aoc c.length capc] 25)).alloc (.cells #[.slice aof x.from'.length capf, .slice aoo x.order.length capo] 29)).heap.size = w.heap.size + 1 + 1 := by simp
  generalize (w.alloc (.cells #[.slice aot T.length capt, .bool fa, .slice aoc c.length capc] 25)).alloc (.cells #[.slice aof x.from'.length capf, .slice aoo x.order.length capo] 29) = W at hba HTX hsW ⊢
  rw [← hsW] at HTX
  obtain ⟨t0, t1, t2, x0, x1⟩ := HTX.out W (Below.refl _ _)
  clear hsW
  go_cut [5, 6] from 9 (fun j e wc => ∃ r er : Int, j = .int .i64 r ∧ e = .int .i64 er ∧ Hid (J r er) ∧ Below W.heap.size W wc)
  case first =>
    go_region_with (first
      | (go_at_call 17; refine (HC1.out _ hba.drew).mono ?_; rintro e w3 ⟨vt3, vc3, rfl, ht3, hb3⟩; have hbW3 := below_more (Below.refl W.heap.size W).drew hb3; obtain ⟨_, _, _, x03, x13⟩ := HTX.out w3 hbW3)
      | (go_at_call 18; refine (HC2.out _ (below_more hba hbW3)).mono ?_; rintro e w4 ⟨vf4, vo4, rfl, hx4, hb4⟩; have hbW4 := below_more hbW3 hb4)
      | (go_at_call 30; refine (HC3.out _ vt3 vc3 vf4 vo4 (ht3.out.keep hb4) hx4.out).mono ?_; rintro e w5 ⟨r, er, rfl, hj, hb5⟩; have hbW5 := below_more hbW4 hb5))
    all_goals
      go_wp2_with fail
      go_meet
      case rel => exact ⟨r, er, rfl, rfl, hj.out, hbW5⟩
  case rest =>
    obtain ⟨r, er, rfl, rfl, hj, hbc⟩ := hcut
    clear t0 t1 t2 x0 x1
    obtain ⟨t0, t1, t2, x0, x1⟩ := HTX.out wc hbc
    have HJ := hj
    clear hj
    go_wp2_with fail
    refine (HC4.out _ (below_more hba hbc)).mono ?_
    rintro e w6 ⟨r', er', rfl, hj', hb6⟩
    obtain ⟨e1, e2⟩ := HONE.out _ _ _ _ HJ.out hj'.out
    subst e1 e2
    have k1 : (r == r) = true := by simp
    have k2 : (er == er) = true := by simp
    clear hj' t0 t1 t2 x0 x1
    go_wp2_with fail
    go_ret
    exact ⟨rfl, below_more (below_more hba hbc) hb6⟩

end Go.Proofs.YtomijmikkbhgmaaGreat

namespace Go.Proofs.YtomijmikkbhgmaaGreat

/-- The value of an event, by no more than so many steps. -/
def valN (E : List Evt) (S : Nat → Int) : Nat → Int → Int
  | 0, _ => 0
  | d + 1, i => if i < 0 then 0 else match E[i.toNat]? with
    | none => 0
    | some y => if y.kind == 0 then valN E S d (S i.toNat) else if y.ins.op == 1 then valN E S d (srcG y (E.take i.toNat) 0 (-1)) else y.ins.val

theorem valN_neg (E : List Evt) (S : Nat → Int) (d : Nat) {i : Int} (h : i < 0) : valN E S d i = 0 := by
  cases d with
  | zero => rfl
  | succ d => unfold valN; rw [if_pos h]
theorem valN_read {E : List Evt} {S : Nat → Int} {d i : Nat} {y : Evt} (h : E[i]? = some y) (hk : (y.kind == 0) = true) : valN E S (d + 1) (i : Int) = valN E S d (S i) := by
  rw [valN, if_neg (by omega), Int.toNat_natCast, h]
  simp only [hk, if_true]
theorem valN_copy {E : List Evt} {S : Nat → Int} {d i : Nat} {y : Evt} (h : E[i]? = some y) (hk : (y.kind == 0) = false) (ho : (y.ins.op == 1) = true) : valN E S (d + 1) (i : Int) = valN E S d (srcG y (E.take i) 0 (-1)) := by
  rw [valN, if_neg (by omega), Int.toNat_natCast, h]
  simp only [hk, ho, if_true, Bool.false_eq_true, if_false]
theorem valN_else {E : List Evt} {S : Nat → Int} {d i : Nat} {y : Evt} (h : E[i]? = some y) (hk : (y.kind == 0) = false) (ho : (y.ins.op == 1) = false) : valN E S (d + 1) (i : Int) = y.ins.val := by
  rw [valN, if_neg (by omega), Int.toNat_natCast, h]
  simp only [hk, ho, Bool.false_eq_true, if_false]

/-- An event of a thread, into a register: for those who look for the last Read. -/
def evtOf (thread reg : Int) : Evt := ⟨thread, 0, 0, 0, ⟨0, 0, reg, 0, 0⟩⟩

def regV (E : List Evt) (S : Nat → Int) (i r : Nat) : Int := valN E S (2 * E.length) (srcG (evtOf i r) E 0 (-1))
def locV (E : List Evt) (S : Nat → Int) (x : Exe) (j : Nat) : Int := match (x.order.getD j []).getLast? with
  | none => 0
  | some w => valN E S (2 * E.length) w
/-- What is held in the end. -/
def staL (k : Nat) (E : List Evt) (S : Nat → Int) (x : Exe) : List Int := ((List.range k).flatMap fun i => (List.range 3).map (regV E S i)) ++ (List.range 3).map (locV E S x)

theorem srcG_range (y : Evt) (E : List Evt) (i : Nat) (a : Int) (ha : a = -1 ∨ ∃ k : Nat, a = (k : Int) ∧ k < i) : srcG y E i a = -1 ∨ ∃ k : Nat, srcG y E i a = (k : Int) ∧ k < i + E.length := by
  induction E generalizing i a with
  | nil =>
    rcases ha with h | ⟨k, h1, h2⟩
    · exact .inl h
    · exact .inr ⟨k, h1, by simpa using h2⟩
  | cons z E ih =>
    rw [srcG]
    have h2 := ih (i + 1) (if z.kind == 0 && z.thread == y.thread && z.ins.reg == y.ins.reg then (i : Int) else a) (by
      split
      · exact .inr ⟨i, rfl, by omega⟩
      · rcases ha with h | ⟨k, h1, h2⟩
        · exact .inl h
        · exact .inr ⟨k, h1, by omega⟩)
    rcases h2 with h | ⟨k, h1, h2⟩
    · exact .inl h
    · exact .inr ⟨k, h1, by rw [List.length_cons]; omega⟩

end Go.Proofs.YtomijmikkbhgmaaGreat

namespace Go.Proofs.YtomijmikkbhgmaaGreat
open Go.RowKit

/-- From which event a Read reads, by its number. -/
def frG : List ((Nat × Evt) × Int) → Int → Int
  | [], _ => -1
  | q :: l, r => if (q.1.1 : Int) == r then q.2 else frG l r

theorem frG_hit {q : (Nat × Evt) × Int} {r : Int} (h : ((q.1.1 : Int) == r) = true) (l : List ((Nat × Evt) × Int)) : frG (q :: l) r = q.2 := by rw [frG, if_pos h]
theorem frG_mis {q : (Nat × Evt) × Int} {r : Int} (h : ((q.1.1 : Int) == r) = false) (l : List ((Nat × Evt) × Int)) : frG (q :: l) r = frG l r := by rw [frG, if_neg (by simp [h])]
theorem frG_mem (l : List ((Nat × Evt) × Int)) (r : Int) : frG l r = -1 ∨ ∃ q ∈ l, frG l r = q.2 ∧ (q.1.1 : Int) = r := by
  induction l with
  | nil => exact .inl rfl
  | cons q l ih =>
    cases h : ((q.1.1 : Int) == r)
    · rw [frG_mis h]
      rcases ih with h1 | ⟨q', h1, h2⟩
      · exact .inl h1
      · exact .inr ⟨q', List.mem_cons_of_mem _ h1, h2⟩
    · rw [frG_hit h]; exact .inr ⟨q, List.mem_cons_self .., rfl, by simpa using h⟩

set_option maxRecDepth 20000 in
set_option maxHeartbeats 1000000 in
theorem from_any (E : List Evt) (hE : E.length ≤ 96) (x : Exe) (hf : x.from'.length = (rdsX E 0).length) (r : Int) (v vf vo : Value) (w : World) (hev : Ev9At w v E) (hx : ExeAt w vf vo x) :
    Calls Tryz.prog 121 #[v, .agg #[vf, vo], .int .i64 r] w fun e w' => e = .returned (.int .i64 (frG ((rdsX E 0).zip x.from') r)) ∧ Below w.heap.size w w' := by
  have HE : Hid (Ev9At w v E) := hev
  obtain ⟨ao, b, off, cap, hv, _⟩ := hev
  obtain ⟨aof, bf, off2, capf, hvf, haf, _, hcf⟩ := hx.f
  obtain ⟨aoo, bo, off3, capo, hvo, _⟩ := hx.o
  subst hv hvf hvo
  have HF : Hid (∀ k a, x.from'[k]? = some a → IntC w bf (off2 + k * 1) a) := hcf
  have hrl := rdsX_len E 0
  have hRI : (rdsI E 0).length = (rdsX E 0).length := List.length_map ..
  have HRI : Hid (∀ (k : Nat) (p : Nat × Evt), (rdsX E 0)[k]? = some p → (rdsI E 0)[k]? = some (p.1 : Int)) := fun k p hp => by unfold rdsI; rw [List.getElem?_map, hp]; rfl
  have HB : Hid (frG ((rdsX E 0).zip x.from') r = frG (((rdsX E 0).zip x.from').drop 0) r) := rfl
  generalize frG ((rdsX E 0).zip x.from') r = B at HB ⊢
  generalize rdsX E 0 = R at HB hf hrl hRI HRI
  rw [hf]
  have HFL : Hid (x.from'.length = R.length) := hf
  clear hcf hx hf
  go_enter Tryz.func121, Tryz.ntmps121
  go_wp2_with fail
  have hba := below_alloc w (.cells #[.slice aof R.length capf, .slice aoo x.order.length capo] 29)
  refine (reads_any E hE _ _ (HE.out.keep hba)).mono ?_
  generalize rdsI E 0 = RI at hRI HRI
  rintro e w2 ⟨u2, rfl, hu2, hb2⟩
  obtain ⟨ao4, b4, off4, cap4, ⟨hv4, ha4, _, hc4⟩, hb4, _⟩ := hu2
  rw [hRI] at hv4
  subst hv4
  clear hRI
  have HR4 : Hid (∀ k a, RI[k]? = some a → IntC w2 b4 (off4 + k * 1) a) := hc4
  have e0 := keep_cell hb2 (b := w.heap.size) (off := 0) (u := .slice aof R.length capf) (by simp)
  have hbw2 := below_more hba hb2
  clear hc4 hb2
  go_wp2_with fail
  go_loop [8] (fun i => ∃ k : Nat, k ≤ R.length ∧ i = .int .i64 k ∧ Hid (B = frG ((R.zip x.from').drop k) r)) (fun i => R.length - (intOf i).toNat)
  case atStart => exact ⟨0, Nat.zero_le _, rfl, HB.out⟩
  case round =>
    clear HB
    obtain ⟨k, hk, rfl, hn⟩ := hrel
    by_cases hlt : k < R.length
    · obtain ⟨⟨r', y⟩, hp⟩ := get_of_lt hlt
      have hfl : k < x.from'.length := by have := HFL.out; omega
      obtain ⟨f, hfk⟩ := get_of_lt hfl
      have hr1 := HRI.out k _ hp
      obtain rfl := haf (ne_nil hfl)
      have ha4' := ha4 (by intro h; rw [h] at hr1; simp at hr1)
      subst ha4'
      have HN : Hid (B = frG (((r', y), f) :: (R.zip x.from').drop (k + 1)) r) := hn.out.trans (by rw [drop_cons (zip_get hp hfk)])
      have q0 := HR4.out k _ hr1
      have q1 := intC_keeps _ _ _ _ _ hbw2 (HF.out k f hfk)
      unfold IntC at q0 q1
      rw [Nat.mul_one] at q0 q1
      have hkI : (k : Int) < (R.length : Int) := by omega
      simp only at q0
      clear hn hp hfk hr1
      cases hrr : ((r' : Int) == r)
      · have HM : Hid (B = frG ((R.zip x.from').drop (k + 1)) r) := HN.out.trans (frG_mis hrr _)
        clear HN
        go_wp2_with fail
        go_round
        case measure => simp [intOf]; omega
        case rel => exact ⟨k + 1, by omega, by go_num, HM.out⟩
      · have HM : Hid (B = f) := HN.out.trans (frG_hit hrr _)
        clear HN
        go_wp2_with fail
        go_ret
        exact ⟨by rw [HM.out]; rfl, hbw2⟩
    · have HM : Hid (B = -1) := hn.out.trans (by rw [drop_nil (l := R.zip x.from') (k := k) (by have := List.length_zip (l₁ := R) (l₂ := x.from'); omega)]; rfl)
      have hkI : (R.length : Int) ≤ (k : Int) := by omega
      clear hn
      go_wp2_with fail
      go_ret
      exact ⟨by rw [HM.out]; rfl, hbw2⟩

/-- Numbers of events, or -1. -/
def EvI (n : Nat) (i : Int) : Prop := i = -1 ∨ ∃ k : Nat, i = (k : Int) ∧ k < n

set_option maxRecDepth 20000 in
set_option maxHeartbeats 1000000 in
theorem value_any (E : List Evt) (hE : E.length ≤ 96) (x : Exe) (hf : x.from'.length = (rdsX E 0).length) (hr : ∀ f ∈ x.from', EvI E.length f) (d : Nat) (hd : d ≤ 200) (i : Int) (hi : EvI E.length i) (v vf vo : Value) (w : World) (hev : Ev9At w v E) (hx : ExeAt w vf vo x) :
    Calls Tryz.prog 77 #[v, .agg #[vf, vo], .int .i64 i, .int .i64 d] w fun e w' => e = .returned (.int .i64 (valN E (fun r => frG ((rdsX E 0).zip x.from') (r : Int)) d i)) ∧ Below w.heap.size w w' := by
  induction d generalizing i w with
  | zero =>
    obtain ⟨aof, capf, hvf⟩ := hx.f.form
    obtain ⟨aoo, bo, offo, capo, hvo, _⟩ := hx.o
    obtain ⟨ao, b, off, cap, hv, _⟩ := hev
    subst hv hvf hvo
    have hba := below_alloc w (.cells #[.slice aof x.from'.length capf, .slice aoo x.order.length capo] 29)
    clear hx hr hf hi
    cases hi0 : decide (i < 0)
    · go_enter Tryz.func77, Tryz.ntmps77
      go_wp2_with fail
      go_ret
      exact ⟨rfl, hba⟩
    · go_enter Tryz.func77, Tryz.ntmps77
      go_wp2_with fail
      go_ret
      exact ⟨rfl, hba⟩
  | succ d ih =>
    have HV : Hid (∀ (i : Int) (w' : World), EvI E.length i → Below w.heap.size w w' → Calls Tryz.prog 77 #[v, .agg #[vf, vo], .int .i64 i, .int .i64 d] w' fun e w'' => e = .returned (.int .i64 (valN E (fun r => frG ((rdsX E 0).zip x.from') (r : Int)) d i)) ∧ Below w'.heap.size w' w'') := fun i w' hi hb => ih (by omega) i hi w' (hev.keep hb) (hx.keep hb)
    have HFR : Hid (∀ (r : Int) (w' : World), Below w.heap.size w w' → Calls Tryz.prog 121 #[v, .agg #[vf, vo], .int .i64 r] w' fun e w'' => e = .returned (.int .i64 (frG ((rdsX E 0).zip x.from') r)) ∧ Below w'.heap.size w' w'') := fun r w' hb => from_any E hE x hf r v vf vo w' (hev.keep hb) (hx.keep hb)
    have HSR : Hid (∀ (k : Nat) (y : Evt) (w' : World), E[k]? = some y → Below w.heap.size w w' → Calls Tryz.prog 122 #[v, .int .i64 k] w' fun e w'' => e = .returned (.int .i64 (srcG y (E.take k) 0 (-1))) ∧ Below w'.heap.size w' w'') := fun k y w' hy hb => source_any E hE k y hy v w' (hev.keep hb)
    have HFE : Hid (∀ r : Int, EvI E.length (frG ((rdsX E 0).zip x.from') r)) := fun r => by
      rcases frG_mem ((rdsX E 0).zip x.from') r with h | ⟨q, h1, h2, _⟩
      · exact .inl h
      · rw [h2]; exact hr _ (List.of_mem_zip h1).2
    have HSE : Hid (∀ (k : Nat) (y : Evt), k < E.length → EvI E.length (srcG y (E.take k) 0 (-1))) := fun k y hk => by
      rcases srcG_range y (E.take k) 0 (-1) (.inl rfl) with h | ⟨a, h1, h2⟩
      · exact .inl h
      · exact .inr ⟨a, h1, by rw [List.length_take] at h2; omega⟩
    have HVN : Hid (∀ i : Int, i < 0 → valN E (fun r => frG ((rdsX E 0).zip x.from') (r : Int)) (d + 1) i = 0) := fun i hi => valN_neg _ _ _ hi
    have HVR : Hid (∀ (k : Nat) (y : Evt), E[k]? = some y → (y.kind == 0) = true → valN E (fun r => frG ((rdsX E 0).zip x.from') (r : Int)) (d + 1) (k : Int) = valN E (fun r => frG ((rdsX E 0).zip x.from') (r : Int)) d (frG ((rdsX E 0).zip x.from') (k : Int))) := fun k y h hk => valN_read h hk
    have HVC : Hid (∀ (k : Nat) (y : Evt), E[k]? = some y → (y.kind == 0) = false → (y.ins.op == 1) = true → valN E (fun r => frG ((rdsX E 0).zip x.from') (r : Int)) (d + 1) (k : Int) = valN E (fun r => frG ((rdsX E 0).zip x.from') (r : Int)) d (srcG y (E.take k) 0 (-1))) := fun k y h hk ho => valN_copy h hk ho
    have HVE : Hid (∀ (k : Nat) (y : Evt), E[k]? = some y → (y.kind == 0) = false → (y.ins.op == 1) = false → valN E (fun r => frG ((rdsX E 0).zip x.from') (r : Int)) (d + 1) (k : Int) = y.ins.val) := fun k y h hk ho => valN_else h hk ho
    generalize valN E (fun r => frG ((rdsX E 0).zip x.from') (r : Int)) (d + 1) = V1 at HVN HVR HVC HVE ⊢
    generalize valN E (fun r => frG ((rdsX E 0).zip x.from') (r : Int)) d = V0 at HV HVR HVC
    generalize frG ((rdsX E 0).zip x.from') = fr at HFR HFE HVR
    obtain ⟨aof, capf, hvf⟩ := hx.f.form
    obtain ⟨aoo, bo, offo, capo, hvo, _⟩ := hx.o
    obtain ⟨ao, b, off, cap, hv, ha, _, hc⟩ := hev
    subst hv hvf hvo
    have hba := below_alloc w (.cells #[.slice aof x.from'.length capf, .slice aoo x.order.length capo] 29)
    clear hx hr hf ih
    have hd1 : ((d : Int) + 1 == 0) = false := by simp; omega
    have hcast : ((d + 1 : Nat) : Int) = (d : Int) + 1 := by omega
    rw [hcast]
    rcases hi with hi | ⟨k, hi, hk⟩
    · subst hi
      have HM : Hid (V1 (-1) = 0) := HVN.out (-1) (by omega)
      go_enter Tryz.func77, Tryz.ntmps77
      go_wp2_with fail
      go_ret
      exact ⟨by rw [HM.out]; rfl, hba⟩
    · subst hi
      obtain ⟨y, hy⟩ := get_of_lt hk
      obtain rfl := ha (ne_nil hk)
      have HC : Hid (Ev9C w b (off + k * 9) y) := hc k y hy
      obtain ⟨_, _, c2, _, c4, _, _, c7, _⟩ := HC.out
      have m0 := World.block_lt_of_cell? _ _ c2
      simp only at m0
      have hkI : (k : Int) < (E.length : Int) := by omega
      have hk0 : decide ((k : Int) < 0) = false := by rw [decide_eq_false_iff_not]; omega
      have hdI : (d : Int) + 1 - 1 = (d : Int) := by omega
      have hdw : IntKind.i64.wrap (d : Int) = (d : Int) := by rw [IntKind.wrap_i64]; omega
      cases k0 : y.kind == 0
      · cases o1 : y.ins.op == 1
        · have HM : Hid (V1 (k : Int) = y.ins.val) := HVE.out k y hy k0 o1
          clear hc hy
          go_enter Tryz.func77, Tryz.ntmps77
          go_wp2_with fail
          go_ret
          exact ⟨by rw [HM.out]; rfl, hba⟩
        · have HM : Hid (V1 (k : Int) = V0 (srcG y (E.take k) 0 (-1))) := HVC.out k y hy k0 o1
          have HS1 : Hid (∀ w', Below w.heap.size w w' → Calls Tryz.prog 122 #[.slice (some ⟨b, off, none⟩) E.length cap, .int .i64 k] w' fun e w'' => e = .returned (.int .i64 (srcG y (E.take k) 0 (-1))) ∧ Below w'.heap.size w' w'') := fun w' hb => HSR.out k y w' hy hb
          have HS2 : Hid (EvI E.length (srcG y (E.take k) 0 (-1))) := HSE.out k y hk
          generalize srcG y (E.take k) 0 (-1) = sr at HM HS1 HS2
          clear hc hy
          go_enter Tryz.func77, Tryz.ntmps77
          go_wp2_with fail
          have x0 : (w.alloc (.cells #[.slice aof x.from'.length capf, .slice aoo x.order.length capo] 29)).cell? ⟨w.heap.size, 0, none⟩ = some (.slice aof x.from'.length capf) := by simp
          have x1 : (w.alloc (.cells #[.slice aof x.from'.length capf, .slice aoo x.order.length capo] 29)).cell? ⟨w.heap.size, 1, none⟩ = some (.slice aoo x.order.length capo) := by simp
          generalize w.alloc (.cells #[.slice aof x.from'.length capf, .slice aoo x.order.length capo] 29) = W at hba x0 x1 ⊢
          replace x0 := grown_cell x0
          replace x1 := grown_cell x1
          have hne := grw_some W
          refine wp_region_grown (by kernel_rfl) (by kernel_rfl) ?_
          repeat (go_big_quiet_step (first | (go_at_call 122; exact grown_call (HS1.out _ (below_more hba (Grw.low _)))) | (go_at_call 77; exact grown_call (HV.out sr _ HS2.out (below_more hba (Grw.low _))))))
          refine wpQuiet_nil ?_
          intro w7 hw7
          obtain ⟨⟨w7', hb7⟩, rfl⟩ := hw7
          go_wp2_with fail
          go_ret
          exact ⟨by rw [HM.out]; rfl, below_more hba hb7⟩
      · have HM : Hid (V1 (k : Int) = V0 (fr (k : Int))) := HVR.out k y hy k0
        have HS2 := HFE.out (k : Int)
        have HF1 : Hid (∀ w', Below w.heap.size w w' → Calls Tryz.prog 121 #[.slice (some ⟨b, off, none⟩) E.length cap, .agg #[.slice aof x.from'.length capf, .slice aoo x.order.length capo], .int .i64 k] w' fun e w'' => e = .returned (.int .i64 (fr (k : Int))) ∧ Below w'.heap.size w' w'') := fun w' hb => HFR.out (k : Int) w' hb
        generalize fr (k : Int) = sr at HM HF1 HS2
        have HS3 : Hid (EvI E.length sr) := HS2
        clear hc hy HS2
        go_enter Tryz.func77, Tryz.ntmps77
        go_wp2_with fail
        have x0 : (w.alloc (.cells #[.slice aof x.from'.length capf, .slice aoo x.order.length capo] 29)).cell? ⟨w.heap.size, 0, none⟩ = some (.slice aof x.from'.length capf) := by simp
        have x1 : (w.alloc (.cells #[.slice aof x.from'.length capf, .slice aoo x.order.length capo] 29)).cell? ⟨w.heap.size, 1, none⟩ = some (.slice aoo x.order.length capo) := by simp
        generalize w.alloc (.cells #[.slice aof x.from'.length capf, .slice aoo x.order.length capo] 29) = W at hba x0 x1 ⊢
        replace x0 := grown_cell x0
        replace x1 := grown_cell x1
        have hne := grw_some W
        refine wp_region_grown (by kernel_rfl) (by kernel_rfl) ?_
        repeat (go_big_quiet_step (first | (go_at_call 121; exact grown_call (HF1.out _ (below_more hba (Grw.low _)))) | (go_at_call 77; exact grown_call (HV.out sr _ HS3.out (below_more hba (Grw.low _))))))
        refine wpQuiet_nil ?_
        intro w7 hw7
        obtain ⟨⟨w7', hb7⟩, rfl⟩ := hw7
        go_wp2_with fail
        go_ret
        exact ⟨by rw [HM.out]; rfl, below_more hba hb7⟩

end Go.Proofs.YtomijmikkbhgmaaGreat
