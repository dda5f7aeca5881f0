import Derived.Test.YtomijmikkbhgmaaGreatT9
import Derived.Test.YtomijmikkbhgmaaGreatT1
namespace Go.Proofs.YtomijmikkbhgmaaGreat
open Go.RowKit

/-- From which event a Read reads, by its number. -/
def frG : List ((Nat × Evt) × Int) → Int → Int
  | [], _ => -1
  | q :: l, r => if (q.1.1 : Int) == r then q.2 else frG l r

theorem frG_hit {q : (Nat × Evt) × Int} {r : Int} (h : ((q.1.1 : Int) == r) = true) (l : List ((Nat × Evt) × Int)) : frG (q :: l) r = q.2 := by rw [frG, if_pos h]
theorem frG_mis {q : (Nat × Evt) × Int} {r : Int} (h : ((q.1.1 : Int) == r) = false) (l : List ((Nat × Evt) × Int)) : frG (q :: l) r = frG l r := by rw [frG, if_neg (by simp [h])]
theorem frG_mem (l : List ((Nat × Evt) × Int)) (r : Int) : frG l r = -1 ∨ ∃ q ∈ l, frG l r = q.2 ∧ (q.1.1 : Int) = r := by
  induction l with
  | nil => exact .inl rfl
  | cons q l ih =>
    cases h : ((q.1.1 : Int) == r)
    · rw [frG_mis h]
      rcases ih with h1 | ⟨q', h1, h2⟩
      · exact .inl h1
      · exact .inr ⟨q', List.mem_cons_of_mem _ h1, h2⟩
    · rw [frG_hit h]; exact .inr ⟨q, List.mem_cons_self .., rfl, by simpa using h⟩

set_option maxRecDepth 20000 in
set_option maxHeartbeats 1000000 in
theorem from_any (E : List Evt) (hE : E.length ≤ 96) (x : Exe) (hf : x.from'.length = (rdsX E 0).length) (r : Int) (v vf vo : Value) (w : World) (hev : Ev9At w v E) (hx : ExeAt w vf vo x) :
    Calls Tryz.prog 121 #[v, .agg #[vf, vo], .int .i64 r] w fun e w' => e = .returned (.int .i64 (frG ((rdsX E 0).zip x.from') r)) ∧ Below w.heap.size w w' := by
  have HE : Hid (Ev9At w v E) := hev
  obtain ⟨ao, b, off, cap, hv, _⟩ := hev
  obtain ⟨aof, bf, off2, capf, hvf, haf, _, hcf⟩ := hx.f
  obtain ⟨aoo, bo, off3, capo, hvo, _⟩ := hx.o
  subst hv hvf hvo
  have HF : Hid (∀ k a, x.from'[k]? = some a → IntC w bf (off2 + k * 1) a) := hcf
  have hrl := rdsX_len E 0
  have hRI : (rdsI E 0).length = (rdsX E 0).length := List.length_map ..
  have HRI : Hid (∀ (k : Nat) (p : Nat × Evt), (rdsX E 0)[k]? = some p → (rdsI E 0)[k]? = some (p.1 : Int)) := fun k p hp => by unfold rdsI; rw [List.getElem?_map, hp]; rfl
  have HB : Hid (frG ((rdsX E 0).zip x.from') r = frG (((rdsX E 0).zip x.from').drop 0) r) := rfl
  generalize frG ((rdsX E 0).zip x.from') r = B at HB ⊢
  generalize rdsX E 0 = R at HB hf hrl hRI HRI
  rw [hf]
  have HFL : Hid (x.from'.length = R.length) := hf
  clear hcf hx hf
  go_enter Tryz.func121, Tryz.ntmps121
  go_wp2_with fail
  have hba := below_alloc w (.cells #[.slice aof R.length capf, .slice aoo x.order.length capo] 29)
  refine (reads_any E hE _ _ (HE.out.keep hba)).mono ?_
  generalize rdsI E 0 = RI at hRI HRI
  rintro e w2 ⟨u2, rfl, hu2, hb2⟩
  obtain ⟨ao4, b4, off4, cap4, ⟨hv4, ha4, _, hc4⟩, hb4, _⟩ := hu2
  rw [hRI] at hv4
  subst hv4
  clear hRI
  have HR4 : Hid (∀ k a, RI[k]? = some a → IntC w2 b4 (off4 + k * 1) a) := hc4
  have e0 := keep_cell hb2 (b := w.heap.size) (off := 0) (u := .slice aof R.length capf) (by simp)
  have hbw2 := below_more hba hb2
  clear hc4 hb2
  go_wp2_with fail
  go_loop [8] (fun i => ∃ k : Nat, k ≤ R.length ∧ i = .int .i64 k ∧ Hid (B = frG ((R.zip x.from').drop k) r)) (fun i => R.length - (intOf i).toNat)
  case atStart => exact ⟨0, Nat.zero_le _, rfl, HB.out⟩
  case round =>
    clear HB
    obtain ⟨k, hk, rfl, hn⟩ := hrel
    by_cases hlt : k < R.length
    · obtain ⟨⟨r', y⟩, hp⟩ := get_of_lt hlt
      have hfl : k < x.from'.length := by have := HFL.out; omega
      obtain ⟨f, hfk⟩ := get_of_lt hfl
      have hr1 := HRI.out k _ hp
      obtain rfl := haf (ne_nil hfl)
      have ha4' := ha4 (by intro h; rw [h] at hr1; simp at hr1)
      subst ha4'
      have HN : Hid (B = frG (((r', y), f) :: (R.zip x.from').drop (k + 1)) r) := hn.out.trans (by rw [drop_cons (zip_get hp hfk)])
      have q0 := HR4.out k _ hr1
      have q1 := intC_keeps _ _ _ _ _ hbw2 (HF.out k f hfk)
      unfold IntC at q0 q1
      rw [Nat.mul_one] at q0 q1
      have hkI : (k : Int) < (R.length : Int) := by omega
      simp only at q0
      clear hn hp hfk hr1
      cases hrr : ((r' : Int) == r)
      · have HM : Hid (B = frG ((R.zip x.from').drop (k + 1)) r) := HN.out.trans (frG_mis hrr _)
        clear HN
        go_wp2_with fail
        go_round
        case measure => simp [intOf]; omega
        case rel => exact ⟨k + 1, by omega, by go_num, HM.out⟩
      · have HM : Hid (B = f) := HN.out.trans (frG_hit hrr _)
        clear HN
        go_wp2_with fail
        go_ret
        exact ⟨by rw [HM.out]; rfl, hbw2⟩
    · have HM : Hid (B = -1) := hn.out.trans (by rw [drop_nil (l := R.zip x.from') (k := k) (by have := List.length_zip (l₁ := R) (l₂ := x.from'); omega)]; rfl)
      have hkI : (R.length : Int) ≤ (k : Int) := by omega
      clear hn
      go_wp2_with fail
      go_ret
      exact ⟨by rw [HM.out]; rfl, hbw2⟩

/-- Numbers of events, or -1. -/
def EvI (n : Nat) (i : Int) : Prop := i = -1 ∨ ∃ k : Nat, i = (k : Int) ∧ k < n

set_option maxRecDepth 20000 in
set_option maxHeartbeats 1000000 in
theorem value_any (E : List Evt) (hE : E.length ≤ 96) (x : Exe) (hf : x.from'.length = (rdsX E 0).length) (hr : ∀ f ∈ x.from', EvI E.length f) (d : Nat) (hd : d ≤ 200) (i : Int) (hi : EvI E.length i) (v vf vo : Value) (w : World) (hev : Ev9At w v E) (hx : ExeAt w vf vo x) :
    Calls Tryz.prog 77 #[v, .agg #[vf, vo], .int .i64 i, .int .i64 d] w fun e w' => e = .returned (.int .i64 (valN E (fun r => frG ((rdsX E 0).zip x.from') (r : Int)) d i)) ∧ Below w.heap.size w w' := by
  induction d generalizing i w with
  | zero =>
    obtain ⟨aof, capf, hvf⟩ := hx.f.form
    obtain ⟨aoo, bo, offo, capo, hvo, _⟩ := hx.o
    obtain ⟨ao, b, off, cap, hv, _⟩ := hev
    subst hv hvf hvo
    have hba := below_alloc w (.cells #[.slice aof x.from'.length capf, .slice aoo x.order.length capo] 29)
    clear hx hr hf hi
    cases hi0 : decide (i < 0)
    · go_enter Tryz.func77, Tryz.ntmps77
      go_wp2_with fail
      go_ret
      exact ⟨rfl, hba⟩
    · go_enter Tryz.func77, Tryz.ntmps77
      go_wp2_with fail
      go_ret
      exact ⟨rfl, hba⟩
  | succ d ih =>
    have HV : Hid (∀ (i : Int) (w' : World), EvI E.length i → Below w.heap.size w w' → Calls Tryz.prog 77 #[v, .agg #[vf, vo], .int .i64 i, .int .i64 d] w' fun e w'' => e = .returned (.int .i64 (valN E (fun r => frG ((rdsX E 0).zip x.from') (r : Int)) d i)) ∧ Below w'.heap.size w' w'') := fun i w' hi hb => ih (by omega) i hi w' (hev.keep hb) (hx.keep hb)
    have HFR : Hid (∀ (r : Int) (w' : World), Below w.heap.size w w' → Calls Tryz.prog 121 #[v, .agg #[vf, vo], .int .i64 r] w' fun e w'' => e = .returned (.int .i64 (frG ((rdsX E 0).zip x.from') r)) ∧ Below w'.heap.size w' w'') := fun r w' hb => from_any E hE x hf r v vf vo w' (hev.keep hb) (hx.keep hb)
    have HSR : Hid (∀ (k : Nat) (y : Evt) (w' : World), E[k]? = some y → Below w.heap.size w w' → Calls Tryz.prog 122 #[v, .int .i64 k] w' fun e w'' => e = .returned (.int .i64 (srcG y (E.take k) 0 (-1))) ∧ Below w'.heap.size w' w'') := fun k y w' hy hb => source_any E hE k y hy v w' (hev.keep hb)
    have HFE : Hid (∀ r : Int, EvI E.length (frG ((rdsX E 0).zip x.from') r)) := fun r => by
      rcases frG_mem ((rdsX E 0).zip x.from') r with h | ⟨q, h1, h2, _⟩
      · exact .inl h
      · rw [h2]; exact hr _ (List.of_mem_zip h1).2
    have HSE : Hid (∀ (k : Nat) (y : Evt), k < E.length → EvI E.length (srcG y (E.take k) 0 (-1))) := fun k y hk => by
      rcases srcG_range y (E.take k) 0 (-1) (.inl rfl) with h | ⟨a, h1, h2⟩
      · exact .inl h
      · exact .inr ⟨a, h1, by rw [List.length_take] at h2; omega⟩
    have HVN : Hid (∀ i : Int, i < 0 → valN E (fun r => frG ((rdsX E 0).zip x.from') (r : Int)) (d + 1) i = 0) := fun i hi => valN_neg _ _ _ hi
    have HVR : Hid (∀ (k : Nat) (y : Evt), E[k]? = some y → (y.kind == 0) = true → valN E (fun r => frG ((rdsX E 0).zip x.from') (r : Int)) (d + 1) (k : Int) = valN E (fun r => frG ((rdsX E 0).zip x.from') (r : Int)) d (frG ((rdsX E 0).zip x.from') (k : Int))) := fun k y h hk => valN_read h hk
    have HVC : Hid (∀ (k : Nat) (y : Evt), E[k]? = some y → (y.kind == 0) = false → (y.ins.op == 1) = true → valN E (fun r => frG ((rdsX E 0).zip x.from') (r : Int)) (d + 1) (k : Int) = valN E (fun r => frG ((rdsX E 0).zip x.from') (r : Int)) d (srcG y (E.take k) 0 (-1))) := fun k y h hk ho => valN_copy h hk ho
    have HVE : Hid (∀ (k : Nat) (y : Evt), E[k]? = some y → (y.kind == 0) = false → (y.ins.op == 1) = false → valN E (fun r => frG ((rdsX E 0).zip x.from') (r : Int)) (d + 1) (k : Int) = y.ins.val) := fun k y h hk ho => valN_else h hk ho
    generalize valN E (fun r => frG ((rdsX E 0).zip x.from') (r : Int)) (d + 1) = V1 at HVN HVR HVC HVE ⊢
    generalize valN E (fun r => frG ((rdsX E 0).zip x.from') (r : Int)) d = V0 at HV HVR HVC
    generalize frG ((rdsX E 0).zip x.from') = fr at HFR HFE HVR
    obtain ⟨aof, capf, hvf⟩ := hx.f.form
    obtain ⟨aoo, bo, offo, capo, hvo, _⟩ := hx.o
    obtain ⟨ao, b, off, cap, hv, ha, _, hc⟩ := hev
    subst hv hvf hvo
    have hba := below_alloc w (.cells #[.slice aof x.from'.length capf, .slice aoo x.order.length capo] 29)
    clear hx hr hf ih
    have hd1 : ((d : Int) + 1 == 0) = false := by simp; omega
    have hcast : ((d + 1 : Nat) : Int) = (d : Int) + 1 := by omega
    rw [hcast]
    rcases hi with hi | ⟨k, hi, hk⟩
    · subst hi
      have HM : Hid (V1 (-1) = 0) := HVN.out (-1) (by omega)
      go_enter Tryz.func77, Tryz.ntmps77
      go_wp2_with fail
      go_ret
      exact ⟨by rw [HM.out]; rfl, hba⟩
    · subst hi
      obtain ⟨y, hy⟩ := get_of_lt hk
      obtain rfl := ha (ne_nil hk)
      have HC : Hid (Ev9C w b (off + k * 9) y) := hc k y hy
      obtain ⟨_, _, c2, _, c4, _, _, c7, _⟩ := HC.out
      have m0 := World.block_lt_of_cell? _ _ c2
      simp only at m0
      have hkI : (k : Int) < (E.length : Int) := by omega
      have hk0 : decide ((k : Int) < 0) = false := by rw [decide_eq_false_iff_not]; omega
      have hdI : (d : Int) + 1 - 1 = (d : Int) := by omega
      have hdw : IntKind.i64.wrap (d : Int) = (d : Int) := by rw [IntKind.wrap_i64]; omega
      cases k0 : y.kind == 0
      · cases o1 : y.ins.op == 1
        · have HM : Hid (V1 (k : Int) = y.ins.val) := HVE.out k y hy k0 o1
          clear hc hy
          go_enter Tryz.func77, Tryz.ntmps77
          go_wp2_with fail
          go_ret
          exact ⟨by rw [HM.out]; rfl, hba⟩
        · have HM : Hid (V1 (k : Int) = V0 (srcG y (E.take k) 0 (-1))) := HVC.out k y hy k0 o1
          have HS1 : Hid (∀ w', Below w.heap.size w w' → Calls Tryz.prog 122 #[.slice (some ⟨b, off, none⟩) E.length cap, .int .i64 k] w' fun e w'' => e = .returned (.int .i64 (srcG y (E.take k) 0 (-1))) ∧ Below w'.heap.size w' w'') := fun w' hb => HSR.out k y w' hy hb
          have HS2 : Hid (EvI E.length (srcG y (E.take k) 0 (-1))) := HSE.out k y hk
          generalize srcG y (E.take k) 0 (-1) = sr at HM HS1 HS2
          clear hc hy
          go_enter Tryz.func77, Tryz.ntmps77
          go_wp2_with fail
          have x0 : (w.alloc (.cells #[.slice aof x.from'.length capf, .slice aoo x.order.length capo] 29)).cell? ⟨w.heap.size, 0, none⟩ = some (.slice aof x.from'.length capf) := by simp
          have x1 : (w.alloc (.cells #[.slice aof x.from'.length capf, .slice aoo x.order.length capo] 29)).cell? ⟨w.heap.size, 1, none⟩ = some (.slice aoo x.order.length capo) := by simp
          generalize w.alloc (.cells #[.slice aof x.from'.length capf, .slice aoo x.order.length capo] 29) = W at hba x0 x1 ⊢
          replace x0 := grown_cell x0
          replace x1 := grown_cell x1
          have hne := grw_some W
          refine wp_region_grown (by kernel_rfl) (by kernel_rfl) ?_
          repeat (go_big_quiet_step (first | (go_at_call 122; exact grown_call (HS1.out _ (below_more hba (Grw.low _)))) | (go_at_call 77; exact grown_call (HV.out sr _ HS2.out (below_more hba (Grw.low _))))))
          refine wpQuiet_nil ?_
          intro w7 hw7
          obtain ⟨⟨w7', hb7⟩, rfl⟩ := hw7
          go_wp2_with fail
          go_ret
          exact ⟨by rw [HM.out]; rfl, below_more hba hb7⟩
      · have HM : Hid (V1 (k : Int) = V0 (fr (k : Int))) := HVR.out k y hy k0
        have HS2 := HFE.out (k : Int)
        have HF1 : Hid (∀ w', Below w.heap.size w w' → Calls Tryz.prog 121 #[.slice (some ⟨b, off, none⟩) E.length cap, .agg #[.slice aof x.from'.length capf, .slice aoo x.order.length capo], .int .i64 k] w' fun e w'' => e = .returned (.int .i64 (fr (k : Int))) ∧ Below w'.heap.size w' w'') := fun w' hb => HFR.out (k : Int) w' hb
        generalize fr (k : Int) = sr at HM HF1 HS2
        have HS3 : Hid (EvI E.length sr) := HS2
        clear hc hy HS2
        go_enter Tryz.func77, Tryz.ntmps77
        go_wp2_with fail
        have x0 : (w.alloc (.cells #[.slice aof x.from'.length capf, .slice aoo x.order.length capo] 29)).cell? ⟨w.heap.size, 0, none⟩ = some (.slice aof x.from'.length capf) := by simp
        have x1 : (w.alloc (.cells #[.slice aof x.from'.length capf, .slice aoo x.order.length capo] 29)).cell? ⟨w.heap.size, 1, none⟩ = some (.slice aoo x.order.length capo) := by simp
        generalize w.alloc (.cells #[.slice aof x.from'.length capf, .slice aoo x.order.length capo] 29) = W at hba x0 x1 ⊢
        replace x0 := grown_cell x0
        replace x1 := grown_cell x1
        have hne := grw_some W
        refine wp_region_grown (by kernel_rfl) (by kernel_rfl) ?_
        repeat (go_big_quiet_step (first | (go_at_call 121; exact grown_call (HF1.out _ (below_more hba (Grw.low _)))) | (go_at_call 77; exact grown_call (HV.out sr _ HS3.out (below_more hba (Grw.low _))))))
        refine wpQuiet_nil ?_
        intro w7 hw7
        obtain ⟨⟨w7', hb7⟩, rfl⟩ := hw7
        go_wp2_with fail
        go_ret
        exact ⟨by rw [HM.out]; rfl, below_more hba hb7⟩

end Go.Proofs.YtomijmikkbhgmaaGreat

namespace Go.Proofs.YtomijmikkbhgmaaGreat
open Go.RowKit

def cmpL : List Int → List Int → Int
  | a :: l, b :: m => if a == b then cmpL l m else a - b
  | _, _ => 0
theorem cmpL_eq {a b : Int} (h : (a == b) = true) (l m : List Int) : cmpL (a :: l) (b :: m) = cmpL l m := by rw [cmpL, if_pos h]
theorem cmpL_ne {a b : Int} (h : (a == b) = false) (l m : List Int) : cmpL (a :: l) (b :: m) = a - b := by rw [cmpL, if_neg (by simp [h])]

theorem below_drN {n : Nat} {w w' : World} (h : Below n w w') (k : Nat) : Below n w (w'.drewN k) := ⟨h.os, h.tape, h.output, h.size, h.block⟩

/-- Small numbers. -/
def Small (l : List Int) : Prop := ∀ a ∈ l, -1000 ≤ a ∧ a ≤ 1000

set_option maxRecDepth 20000 in
set_option maxHeartbeats 1000000 in
theorem compare_any (l m : List Int) (hlm : m.length = l.length) (hl : l.length ≤ 1000) (h1 : Small l) (h2 : Small m) (u v : Value) (w : World) (hu : IntAt w u l) (hv : IntAt w v m) :
    Calls Tryz.prog 48 #[u, v] w fun e w' => e = .returned (.int .i64 (cmpL l m)) ∧ ∃ n, w' = w.drewN n := by
  obtain ⟨ao, b, off, cap, hu1, ha, _, hc⟩ := hu
  obtain ⟨ao2, b2, off2, cap2, hv1, ha2, _, hc2⟩ := hv
  subst hu1 hv1
  rw [hlm]
  have HC : Hid (∀ k x, l[k]? = some x → w.cell? ⟨b, off + k, none⟩ = some (.int .i64 x)) := fun k x hx => by
    have := hc k x hx
    unfold IntC at this
    rw [Nat.mul_one] at this; exact this
  have HC2 : Hid (∀ k x, m[k]? = some x → w.cell? ⟨b2, off2 + k, none⟩ = some (.int .i64 x)) := fun k x hx => by
    have := hc2 k x hx
    unfold IntC at this
    rw [Nat.mul_one] at this; exact this
  have HSM : Hid (Small l ∧ Small m ∧ m.length = l.length) := ⟨h1, h2, hlm⟩
  have HB : Hid (cmpL l m = cmpL (l.drop 0) (m.drop 0)) := rfl
  generalize cmpL l m = B at HB ⊢
  clear hc hc2 h1 h2 hlm
  go_enter Tryz.func48, Tryz.ntmps48
  go_wp2_with fail
  go_loopw [5] (fun i wr => ∃ k nn : Nat, k ≤ l.length ∧ i = .int .i64 k ∧ Hid (B = cmpL (l.drop k) (m.drop k)) ∧ wr = w.drewN nn) (fun i _ => l.length - (intOf i).toNat)
  case atStart => exact ⟨0, 0, Nat.zero_le _, rfl, HB.out, rfl⟩
  case round =>
    clear HB
    obtain ⟨k, nn, hk, rfl, hn, hwr⟩ := hrel
    subst hwr
    by_cases hlt : k < l.length
    · obtain ⟨x, hx⟩ := get_of_lt hlt
      obtain ⟨y, hy⟩ := get_of_lt (l := m) (k := k) (by have := HSM.out.2.2; omega)
      obtain rfl := ha (ne_nil hlt)
      obtain rfl := ha2 (ne_nil (k := k) (by have := HSM.out.2.2; omega))
      have c0 := HC.out k x hx
      have d0 := HC2.out k y hy
      obtain ⟨x1, x2⟩ := HSM.out.1 x (List.mem_of_getElem? hx)
      obtain ⟨y1, y2⟩ := HSM.out.2.1 y (List.mem_of_getElem? hy)
      have hkI : (k : Int) < (l.length : Int) := by omega
      have HN : Hid (B = cmpL (x :: l.drop (k + 1)) (y :: m.drop (k + 1))) := hn.out.trans (by rw [drop_cons hx, drop_cons hy])
      clear hn hx hy
      cases hxy : x == y
      · have hxy' : (x != y) = true := by simp [bne, hxy]
        have HM : Hid (B = x - y) := HN.out.trans (cmpL_ne hxy _ _)
        have hw : IntKind.i64.wrap (x - y) = x - y := by rw [IntKind.wrap_i64]; omega
        go_wp2_with fail
        go_quiet (fail)
        go_wp2_with fail
        go_quiet (fail)
        go_wp2_with fail
        go_ret
        exact ⟨by rw [HM.out]; rfl, _, by rw [World.drewN_drewN, World.drewN_drewN]⟩
      · have hxy' : (x != y) = false := by simp [bne, hxy]
        have HM : Hid (B = cmpL (l.drop (k + 1)) (m.drop (k + 1))) := HN.out.trans (cmpL_eq hxy _ _)
        go_wp2_with fail
        go_quiet (fail)
        go_wp2_with fail
        go_roundw
        case measure => simp [intOf]; omega
        case rel => exact ⟨k + 1, _, by omega, by go_num, HM.out, rfl⟩
    · have HM : Hid (B = 0) := hn.out.trans (by rw [drop_nil hlt]; rfl)
      have hkI : (l.length : Int) ≤ (k : Int) := by omega
      clear hn
      go_wp2_with fail
      go_ret
      exact ⟨by rw [HM.out]; rfl, _, rfl⟩

/-- Where an atom looks in a state. -/
def idxA (n : Nat) (a : Atm) : Nat := (if a.thread == -1 then 3 * (n : Int) + a.at' else 3 * a.thread + a.at').toNat
/-- Does the condition hold in a state? -/
def metB (n : Nat) (c : List Atm) (s : List Int) : Bool := c.all fun a => s.getD (idxA n a) 0 == a.val

/-- Atoms that may be. -/
def AtmsOk (n : Nat) (c : List Atm) : Prop := ∀ a ∈ c, atmB a n = true

theorem atms_ok {n : Nat} {c : List Atm} {i : Nat} (h : atmF c i n = none) : AtmsOk n c := by
  induction c generalizing i with
  | nil => intro a ha; cases ha
  | cons x c ih =>
    rw [atmF] at h
    cases hx : atmB x n
    · rw [hx] at h; simp at h
    · rw [hx] at h
      intro a ha
      rcases List.mem_cons.1 ha with rfl | ha
      · exact hx
      · exact ih (by simpa using h) a ha

theorem atm_range {n : Nat} {a : Atm} (h : atmB a n = true) : (a.thread = -1 ∧ 0 ≤ a.at' ∧ a.at' < 3) ∨ (0 ≤ a.thread ∧ a.thread < n ∧ 0 ≤ a.at' ∧ a.at' < 3) := by
  unfold atmB at h
  simp only [Bool.and_eq_true] at h
  by_cases ht : a.thread = -1
  · have := h.2
    rw [ht] at this
    unfold locB at this
    simp at this
    exact .inl ⟨ht, by omega⟩
  · have := h.2
    have ht' : (a.thread == -1) = false := by simpa using ht
    rw [ht'] at this
    unfold locB at this
    simp at this
    exact .inr (by omega)

set_option maxRecDepth 20000 in
set_option maxHeartbeats 1000000 in
theorem met_any (T : List (List Ins)) (hT : T.length ≤ 4) (fa : Bool) (c : List Atm) (hc : AtmsOk T.length c) (vt vc : Value) (s : List Int) (hs : s.length = 3 * T.length + 3) (v : Value) (w : World) (h : TestAt w (.agg #[vt, .bool fa, vc]) T fa c vt vc) (hv : IntAt w v s) :
    Calls Tryz.prog 50 #[.agg #[vt, .bool fa, vc], v] w fun e w' => e = .returned (.bool (metB T.length c s)) ∧ Below w.heap.size w w' := by
  obtain ⟨ht0, aot, bt, offt, capt, htv, _⟩ := h.ht.opened
  obtain ⟨hc0, aoc, bc, offc, capc, hvc, hac, _, hcc⟩ := h.hc
  obtain ⟨ao, b, off, cap, hv1, ha, _, hcs⟩ := hv
  subst htv hvc hv1
  have HC : Hid (∀ k x, c[k]? = some x → AtmC w bc (offc + k * 3) x) := hcc
  have HS : Hid (∀ k x, s[k]? = some x → w.cell? ⟨b, off + k, none⟩ = some (.int .i64 x)) := fun k x hx => by
    have := hcs k x hx
    unfold IntC at this
    rw [Nat.mul_one] at this; exact this
  have HOK : Hid (AtmsOk T.length c ∧ s.length = 3 * T.length + 3) := ⟨hc, hs⟩
  obtain rfl := ha (by intro h; rw [h] at hs; simp at hs)
  have HB : Hid (metB T.length c s = (c.drop 0).all fun a => s.getD (idxA T.length a) 0 == a.val) := rfl
  generalize metB T.length c s = B at HB ⊢
  have hsl : s.length ≤ 100 := by omega
  clear hcc hcs h hc hs ha
  go_enter Tryz.func50, Tryz.ntmps50
  go_wp2_with fail
  have hba := below_alloc w (.cells #[.slice aot T.length capt, .bool fa, .slice aoc c.length capc] 25)
  have HBX : Hid ((w.alloc (.cells #[.slice aot T.length capt, .bool fa, .slice aoc c.length capc] 25)).cell? ⟨w.heap.size, 0, none⟩ = some (.slice aot T.length capt) ∧ (w.alloc (.cells #[.slice aot T.length capt, .bool fa, .slice aoc c.length capc] 25)).cell? ⟨w.heap.size, 2, none⟩ = some (.slice aoc c.length capc)) := ⟨by simp, by simp⟩
  generalize w.alloc (.cells #[.slice aot T.length capt, .bool fa, .slice aoc c.length capc] 25) = W at hba HBX ⊢
  go_loopw [5] (fun i wr => ∃ k : Nat, k ≤ c.length ∧ i = .int .i64 k ∧ Hid (B = (c.drop k).all fun a => s.getD (idxA T.length a) 0 == a.val) ∧ Below W.heap.size W wr) (fun i _ => c.length - (intOf i).toNat)
  case atStart => exact ⟨0, Nat.zero_le _, rfl, HB.out, Below.refl _ _⟩
  case round =>
    clear HB
    obtain ⟨k, hk, rfl, hn, hb⟩ := hrel
    have t0 := keep_cell hb HBX.out.1
    have t2 := keep_cell hb HBX.out.2
    have hbw := below_more hba hb
    have hsz := hb.size
    by_cases hlt : k < c.length
    · obtain ⟨x, hx⟩ := get_of_lt hlt
      obtain rfl := hac (ne_nil hlt)
      obtain ⟨c0, c1, c2⟩ := (atmC_keeps _ _ _ _ _ hbw (HC.out k x hx))
      have m0 := World.block_lt_of_cell? _ _ c0
      have m1 := World.block_lt_of_cell? _ _ t0
      simp only at m0 m1
      have hkI : (k : Int) < (c.length : Int) := by omega
      have hrg := atm_range (HOK.out.1 x (List.mem_of_getElem? hx))
      have hidx : idxA T.length x < s.length := by
        rw [HOK.out.2]
        unfold idxA
        rcases hrg with ⟨h1, h2, h3⟩ | ⟨h1, h2, h3, h4⟩
        · rw [h1]; simp; omega
        · have : (x.thread == -1) = false := by simp; omega
          rw [this]; simp; omega
      obtain ⟨y, hy⟩ := get_of_lt hidx
      have HN : Hid (B = ((y == x.val) && (c.drop (k + 1)).all fun a => s.getD (idxA T.length a) 0 == a.val)) := hn.out.trans (by rw [drop_cons hx, List.all_cons, List.getD, hy]; rfl)
      have hix : Hid ((idxA T.length x : Int) = if x.thread == -1 then 3 * (T.length : Int) + x.at' else 3 * x.thread + x.at') := by
        show _ = _
        unfold idxA
        rcases hrg with ⟨h1, h2, h3⟩ | ⟨h1, h2, h3, h4⟩
        · rw [h1]; simp; omega
        · have : (x.thread == -1) = false := by simp; omega
          rw [this]; simp; omega
      have s0 := keep_cell hbw (HS.out _ y hy)
      have ms0 := World.block_lt_of_cell? _ _ s0
      simp only at ms0
      generalize idxA T.length x = ix at *
      have hixI : (ix : Int) < (s.length : Int) := by omega
      clear hn hx hy
      cases hth : x.thread == -1
      · have e1 : 3 * x.thread + x.at' = (ix : Int) := by rw [hix.out, hth]; rfl
        rcases hrg with ⟨h1, h2, h3⟩ | ⟨h1, h2, h3, h4⟩
        · rw [h1] at hth; simp at hth
        cases hyv : y == x.val
        · have hyv' : (y != x.val) = true := by simp [bne, hyv]
          have HM : Hid (B = false) := HN.out.trans (by rw [hyv]; rfl)
          go_wp2_with fail
          go_quiet (fail)
          go_wp2_with fail
          go_ret
          exact ⟨by rw [HM.out]; rfl, below_more hba (below_drN (hb.alloc hb.size _) _)⟩
        · have hyv' : (y != x.val) = false := by simp [bne, hyv]
          have HM : Hid (B = (c.drop (k + 1)).all fun a => s.getD (idxA T.length a) 0 == a.val) := HN.out.trans (by rw [hyv, Bool.true_and])
          go_wp2_with fail
          go_quiet (fail)
          go_wp2_with fail
          go_roundw
          case measure => simp [intOf]; omega
          case rel => exact ⟨k + 1, by omega, by go_num, HM.out, below_drN (hb.alloc hb.size _) _⟩
      · have e1 : 3 * (T.length : Int) + x.at' = (ix : Int) := by rw [hix.out, hth]; rfl
        have hth1 : x.thread = -1 := by simpa using hth
        rcases hrg with ⟨h1, h2, h3⟩ | ⟨h1, h2, h3, h4⟩
        case inr => omega
        cases hyv : y == x.val
        · have hyv' : (y != x.val) = true := by simp [bne, hyv]
          have HM : Hid (B = false) := HN.out.trans (by rw [hyv]; rfl)
          go_wp2_with fail
          go_quiet (fail)
          go_wp2_with fail
          go_ret
          exact ⟨by rw [HM.out]; rfl, below_more hba (below_drN (hb.alloc hb.size _) _)⟩
        · have hyv' : (y != x.val) = false := by simp [bne, hyv]
          have HM : Hid (B = (c.drop (k + 1)).all fun a => s.getD (idxA T.length a) 0 == a.val) := HN.out.trans (by rw [hyv, Bool.true_and])
          go_wp2_with fail
          go_quiet (fail)
          go_wp2_with fail
          go_roundw
          case measure => simp [intOf]; omega
          case rel => exact ⟨k + 1, by omega, by go_num, HM.out, below_drN (hb.alloc hb.size _) _⟩
    · have HM : Hid (B = true) := hn.out.trans (by rw [drop_nil hlt]; rfl)
      have hkI : (c.length : Int) ≤ (k : Int) := by omega
      clear hn
      go_wp2_with fail
      go_ret
      exact ⟨by rw [HM.out]; rfl, hbw⟩

end Go.Proofs.YtomijmikkbhgmaaGreat
