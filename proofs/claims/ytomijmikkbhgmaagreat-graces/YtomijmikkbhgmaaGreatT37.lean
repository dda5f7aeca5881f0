import Derived.Test.YtomijmikkbhgmaaGreatT35
import Derived.Test.YtomijmikkbhgmaaGreatT1
import Derived.Test.YtomijmikkbhgmaaGreatT36
import Derived.Test.YtomijmikkbhgmaaGreatT3
import Derived.Test.YtomijmikkbhgmaaGreatT33
namespace Go.Proofs.YtomijmikkbhgmaaGreat
open Go.RowKit

def cmpL : List Int → List Int → Int
  | a :: l, b :: m => if a == b then cmpL l m else a - b
  | _, _ => 0
theorem cmpL_eq {a b : Int} (h : (a == b) = true) (l m : List Int) : cmpL (a :: l) (b :: m) = cmpL l m := by rw [cmpL, if_pos h]
theorem cmpL_ne {a b : Int} (h : (a == b) = false) (l m : List Int) : cmpL (a :: l) (b :: m) = a - b := by rw [cmpL, if_neg (by simp [h])]

theorem below_drN {n : Nat} {w w' : World} (h : Below n w w') (k : Nat) : Below n w (w'.drewN k) := ⟨h.os, h.tape, h.output, h.size, h.block⟩

/-- Small numbers. -/
def Small (l : List Int) : Prop := ∀ a ∈ l, -1000 ≤ a ∧ a ≤ 1000

set_option maxRecDepth 20000 in
set_option maxHeartbeats 1000000 in
theorem compare_any (l m : List Int) (hlm : m.length = l.length) (hl : l.length ≤ 1000) (h1 : Small l) (h2 : Small m) (u v : Value) (w : World) (hu : IntAt w u l) (hv : IntAt w v m) :
    Calls Tryz.prog 48 #[u, v] w fun e w' => e = .returned (.int .i64 (cmpL l m)) ∧ ∃ n, w' = w.drewN n := by
  obtain ⟨ao, b, off, cap, hu1, ha, _, hc⟩ := hu
  obtain ⟨ao2, b2, off2, cap2, hv1, ha2, _, hc2⟩ := hv
  subst hu1 hv1
  rw [hlm]
  have HC : Hid (∀ k x, l[k]? = some x → w.cell? ⟨b, off + k, none⟩ = some (.int .i64 x)) := fun k x hx => by
    have := hc k x hx
    unfold IntC at this
    rw [Nat.mul_one] at this; exact this
  have HC2 : Hid (∀ k x, m[k]? = some x → w.cell? ⟨b2, off2 + k, none⟩ = some (.int .i64 x)) := fun k x hx => by
    have := hc2 k x hx
    unfold IntC at this
    rw [Nat.mul_one] at this; exact this
  have HSM : Hid (Small l ∧ Small m ∧ m.length = l.length) := ⟨h1, h2, hlm⟩
  have HB : Hid (cmpL l m = cmpL (l.drop 0) (m.drop 0)) := rfl
  generalize cmpL l m = B at HB ⊢
  clear hc hc2 h1 h2 hlm
  go_enter Tryz.func48, Tryz.ntmps48
  go_wp2_with fail
  go_loopw [5] (fun i wr => ∃ k nn : Nat, k ≤ l.length ∧ i = .int .i64 k ∧ Hid (B = cmpL (l.drop k) (m.drop k)) ∧ wr = w.drewN nn) (fun i _ => l.length - (intOf i).toNat)
  case atStart => exact ⟨0, 0, Nat.zero_le _, rfl, HB.out, rfl⟩
  case round =>
    clear HB
    obtain ⟨k, nn, hk, rfl, hn, hwr⟩ := hrel
    subst hwr
    by_cases hlt : k < l.length
    · obtain ⟨x, hx⟩ := get_of_lt hlt
      obtain ⟨y, hy⟩ := get_of_lt (l := m) (k := k) (by have := HSM.out.2.2; omega)
      obtain rfl := ha (ne_nil hlt)
      obtain rfl := ha2 (ne_nil (k := k) (by have := HSM.out.2.2; omega))
      have c0 := HC.out k x hx
      have d0 := HC2.out k y hy
      obtain ⟨x1, x2⟩ := HSM.out.1 x (List.mem_of_getElem? hx)
      obtain ⟨y1, y2⟩ := HSM.out.2.1 y (List.mem_of_getElem? hy)
      have hkI : (k : Int) < (l.length : Int) := by omega
      have HN : Hid (B = cmpL (x :: l.drop (k + 1)) (y :: m.drop (k + 1))) := hn.out.trans (by rw [drop_cons hx, drop_cons hy])
      clear hn hx hy
      cases hxy : x == y
      · have hxy' : (x != y) = true := by simp [bne, hxy]
        have HM : Hid (B = x - y) := HN.out.trans (cmpL_ne hxy _ _)
        have hw : IntKind.i64.wrap (x - y) = x - y := by rw [IntKind.wrap_i64]; omega
        go_wp2_with fail
        go_quiet (fail)
        go_wp2_with fail
        go_quiet (fail)
        go_wp2_with fail
        go_ret
        exact ⟨by rw [HM.out]; rfl, _, by rw [World.drewN_drewN, World.drewN_drewN]⟩
      · have hxy' : (x != y) = false := by simp [bne, hxy]
        have HM : Hid (B = cmpL (l.drop (k + 1)) (m.drop (k + 1))) := HN.out.trans (cmpL_eq hxy _ _)
        go_wp2_with fail
        go_quiet (fail)
        go_wp2_with fail
        go_roundw
        case measure => simp [intOf]; omega
        case rel => exact ⟨k + 1, _, by omega, by go_num, HM.out, rfl⟩
    · have HM : Hid (B = 0) := hn.out.trans (by rw [drop_nil hlt]; rfl)
      have hkI : (l.length : Int) ≤ (k : Int) := by omega
      clear hn
      go_wp2_with fail
      go_ret
      exact ⟨by rw [HM.out]; rfl, _, rfl⟩

/-- Where an atom looks in a state. -/
def idxA (n : Nat) (a : Atm) : Nat := (if a.thread == -1 then 3 * (n : Int) + a.at' else 3 * a.thread + a.at').toNat
/-- Does the condition hold in a state? -/
def metB (n : Nat) (c : List Atm) (s : List Int) : Bool := c.all fun a => s.getD (idxA n a) 0 == a.val

/-- Atoms that may be. -/
def AtmsOk (n : Nat) (c : List Atm) : Prop := ∀ a ∈ c, atmB a n = true

theorem atms_ok {n : Nat} {c : List Atm} {i : Nat} (h : atmF c i n = none) : AtmsOk n c := by
  induction c generalizing i with
  | nil => intro a ha; cases ha
  | cons x c ih =>
    rw [atmF] at h
    cases hx : atmB x n
    · rw [hx] at h; simp at h
    · rw [hx] at h
      intro a ha
      rcases List.mem_cons.1 ha with rfl | ha
      · exact hx
      · exact ih (by simpa using h) a ha

theorem atm_range {n : Nat} {a : Atm} (h : atmB a n = true) : (a.thread = -1 ∧ 0 ≤ a.at' ∧ a.at' < 3) ∨ (0 ≤ a.thread ∧ a.thread < n ∧ 0 ≤ a.at' ∧ a.at' < 3) := by
  unfold atmB at h
  simp only [Bool.and_eq_true] at h
  by_cases ht : a.thread = -1
  · have := h.2
    rw [ht] at this
    unfold locB at this
    simp at this
    exact .inl ⟨ht, by omega⟩
  · have := h.2
    have ht' : (a.thread == -1) = false := by simpa using ht
    rw [ht'] at this
    unfold locB at this
    simp at this
    exact .inr (by omega)

set_option maxRecDepth 20000 in
set_option maxHeartbeats 1000000 in
theorem met_any (T : List (List Ins)) (hT : T.length ≤ 4) (fa : Bool) (c : List Atm) (hc : AtmsOk T.length c) (vt vc : Value) (s : List Int) (hs : s.length = 3 * T.length + 3) (v : Value) (w : World) (h : TestAt w (.agg #[vt, .bool fa, vc]) T fa c vt vc) (hv : IntAt w v s) :
    Calls Tryz.prog 50 #[.agg #[vt, .bool fa, vc], v] w fun e w' => e = .returned (.bool (metB T.length c s)) ∧ Below w.heap.size w w' := by
  obtain ⟨ht0, aot, bt, offt, capt, htv, _⟩ := h.ht.opened
  obtain ⟨hc0, aoc, bc, offc, capc, hvc, hac, _, hcc⟩ := h.hc
  obtain ⟨ao, b, off, cap, hv1, ha, _, hcs⟩ := hv
  subst htv hvc hv1
  have HC : Hid (∀ k x, c[k]? = some x → AtmC w bc (offc + k * 3) x) := hcc
  have HS : Hid (∀ k x, s[k]? = some x → w.cell? ⟨b, off + k, none⟩ = some (.int .i64 x)) := fun k x hx => by
    have := hcs k x hx
    unfold IntC at this
    rw [Nat.mul_one] at this; exact this
  have HOK : Hid (AtmsOk T.length c ∧ s.length = 3 * T.length + 3) := ⟨hc, hs⟩
  obtain rfl := ha (by intro h; rw [h] at hs; simp at hs)
  have HB : Hid (metB T.length c s = (c.drop 0).all fun a => s.getD (idxA T.length a) 0 == a.val) := rfl
  generalize metB T.length c s = B at HB ⊢
  have hsl : s.length ≤ 100 := by omega
  clear hcc hcs h hc hs ha
  go_enter Tryz.func50, Tryz.ntmps50
  go_wp2_with fail
  have hba := below_alloc w (.cells #[.slice aot T.length capt, .bool fa, .slice aoc c.length capc] 25)
  have HBX : Hid ((w.alloc (.cells #[.slice aot T.length capt, .bool fa, .slice aoc c.length capc] 25)).cell? ⟨w.heap.size, 0, none⟩ = some (.slice aot T.length capt) ∧ (w.alloc (.cells #[.slice aot T.length capt, .bool fa, .slice aoc c.length capc] 25)).cell? ⟨w.heap.size, 2, none⟩ = some (.slice aoc c.length capc)) := ⟨by simp, by simp⟩
  generalize w.alloc (.cells #[.slice aot T.length capt, .bool fa, .slice aoc c.length capc] 25) = W at hba HBX ⊢
  go_loopw [5] (fun i wr => ∃ k : Nat, k ≤ c.length ∧ i = .int .i64 k ∧ Hid (B = (c.drop k).all fun a => s.getD (idxA T.length a) 0 == a.val) ∧ Below W.heap.size W wr) (fun i _ => c.length - (intOf i).toNat)
  case atStart => exact ⟨0, Nat.zero_le _, rfl, HB.out, Below.refl _ _⟩
  case round =>
    clear HB
    obtain ⟨k, hk, rfl, hn, hb⟩ := hrel
    have t0 := keep_cell hb HBX.out.1
    have t2 := keep_cell hb HBX.out.2
    have hbw := below_more hba hb
    have hsz := hb.size
    by_cases hlt : k < c.length
    · obtain ⟨x, hx⟩ := get_of_lt hlt
      obtain rfl := hac (ne_nil hlt)
      obtain ⟨c0, c1, c2⟩ := (atmC_keeps _ _ _ _ _ hbw (HC.out k x hx))
      have m0 := World.block_lt_of_cell? _ _ c0
      have m1 := World.block_lt_of_cell? _ _ t0
      simp only at m0 m1
      have hkI : (k : Int) < (c.length : Int) := by omega
      have hrg := atm_range (HOK.out.1 x (List.mem_of_getElem? hx))
      have hidx : idxA T.length x < s.length := by
        rw [HOK.out.2]
        unfold idxA
        rcases hrg with ⟨h1, h2, h3⟩ | ⟨h1, h2, h3, h4⟩
        · rw [h1]; simp; omega
        · have : (x.thread == -1) = false := by simp; omega
          rw [this]; simp; omega
      obtain ⟨y, hy⟩ := get_of_lt hidx
      have HN : Hid (B = ((y == x.val) && (c.drop (k + 1)).all fun a => s.getD (idxA T.length a) 0 == a.val)) := hn.out.trans (by rw [drop_cons hx, List.all_cons, List.getD, hy]; rfl)
      have hix : Hid ((idxA T.length x : Int) = if x.thread == -1 then 3 * (T.length : Int) + x.at' else 3 * x.thread + x.at') := by
        show _ = _
        unfold idxA
        rcases hrg with ⟨h1, h2, h3⟩ | ⟨h1, h2, h3, h4⟩
        · rw [h1]; simp; omega
        · have : (x.thread == -1) = false := by simp; omega
          rw [this]; simp; omega
      have s0 := keep_cell hbw (HS.out _ y hy)
      have ms0 := World.block_lt_of_cell? _ _ s0
      simp only at ms0
      generalize idxA T.length x = ix at *
      have hixI : (ix : Int) < (s.length : Int) := by omega
      clear hn hx hy
      cases hth : x.thread == -1
      · have e1 : 3 * x.thread + x.at' = (ix : Int) := by rw [hix.out, hth]; rfl
        rcases hrg with ⟨h1, h2, h3⟩ | ⟨h1, h2, h3, h4⟩
        · rw [h1] at hth; simp at hth
        cases hyv : y == x.val
        · have hyv' : (y != x.val) = true := by simp [bne, hyv]
          have HM : Hid (B = false) := HN.out.trans (by rw [hyv]; rfl)
          go_wp2_with fail
          go_quiet (fail)
          go_wp2_with fail
          go_ret
          exact ⟨by rw [HM.out]; rfl, below_more hba (below_drN (hb.alloc hb.size _) _)⟩
        · have hyv' : (y != x.val) = false := by simp [bne, hyv]
          have HM : Hid (B = (c.drop (k + 1)).all fun a => s.getD (idxA T.length a) 0 == a.val) := HN.out.trans (by rw [hyv, Bool.true_and])
          go_wp2_with fail
          go_quiet (fail)
          go_wp2_with fail
          go_roundw
          case measure => simp [intOf]; omega
          case rel => exact ⟨k + 1, by omega, by go_num, HM.out, below_drN (hb.alloc hb.size _) _⟩
      · have e1 : 3 * (T.length : Int) + x.at' = (ix : Int) := by rw [hix.out, hth]; rfl
        have hth1 : x.thread = -1 := by simpa using hth
        rcases hrg with ⟨h1, h2, h3⟩ | ⟨h1, h2, h3, h4⟩
        case inr => omega
        cases hyv : y == x.val
        · have hyv' : (y != x.val) = true := by simp [bne, hyv]
          have HM : Hid (B = false) := HN.out.trans (by rw [hyv]; rfl)
          go_wp2_with fail
          go_quiet (fail)
          go_wp2_with fail
          go_ret
          exact ⟨by rw [HM.out]; rfl, below_more hba (below_drN (hb.alloc hb.size _) _)⟩
        · have hyv' : (y != x.val) = false := by simp [bne, hyv]
          have HM : Hid (B = (c.drop (k + 1)).all fun a => s.getD (idxA T.length a) 0 == a.val) := HN.out.trans (by rw [hyv, Bool.true_and])
          go_wp2_with fail
          go_quiet (fail)
          go_wp2_with fail
          go_roundw
          case measure => simp [intOf]; omega
          case rel => exact ⟨k + 1, by omega, by go_num, HM.out, below_drN (hb.alloc hb.size _) _⟩
    · have HM : Hid (B = true) := hn.out.trans (by rw [drop_nil hlt]; rfl)
      have hkI : (c.length : Int) ≤ (k : Int) := by omega
      clear hn
      go_wp2_with fail
      go_ret
      exact ⟨by rw [HM.out]; rfl, hbw⟩

end Go.Proofs.YtomijmikkbhgmaaGreat

namespace Go.Proofs.YtomijmikkbhgmaaGreat

theorem picks_zip (E R : List Evt) (i : Nat) (F : List Int) (h : picks F (rdo E R)) : F.length = (rdsX R i).length ∧ ∀ q ∈ (rdsX R i).zip F, q.2 = -1 ∨ q.2 ∈ wrs E 0 q.1.2.loc := by
  induction R generalizing i F with
  | nil =>
    cases F with
    | nil => exact ⟨rfl, fun q hq => by simp [rdsX] at hq⟩
    | cons a F => exact absurd h (by simp [rdo, picks])
  | cons y R ih =>
    unfold rdo at h
    cases hk : y.kind == 0
    · rw [hk] at h
      rw [rdsX_mis hk]
      exact ih (i + 1) F (by simpa using h)
    · rw [hk] at h
      rw [rdsX_hit hk]
      cases F with
      | nil => exact absurd h (by simp [picks])
      | cons a F =>
        have h' : a ∈ -1 :: wrs E 0 y.loc ∧ picks F (rdo E R) := by simpa [picks] using h
        obtain ⟨k1, k2⟩ := ih (i + 1) F h'.2
        refine ⟨by simp [k1], fun q hq => ?_⟩
        rw [List.zip_cons_cons] at hq
        rcases List.mem_cons.1 hq with rfl | hq
        · rcases List.mem_cons.1 h'.1 with e | e
          · exact .inl e
          · exact .inr e
        · exact k2 q hq

theorem Drawn.isEx {E : List Evt} {x : Exe} (h : Drawn E x) : IsEx E x := by
  obtain ⟨h1, h2⟩ := picks_zip E E 0 x.from' h.f
  obtain ⟨a, b, c, ho, _⟩ := h.o
  refine ⟨h1, h2, by rw [ho]; rfl, fun j l hl => ?_⟩
  have hp := h.row hl
  exact ⟨hp.nodup_iff.2 (wrs_nodup E _), fun a => hp.mem_iff⟩

theorem exN_isEx (E : List Evt) (n : Nat) : IsEx E (exN E n) := (exN_drawn E n).isEx

theorem mayB_val {x : Ins} (h : mayB x = true) : 0 ≤ x.val ∧ x.val ≤ 1000 := by
  have h0 : valB x.val = true → 0 ≤ x.val ∧ x.val ≤ 1000 := fun e => by
    unfold valB at e
    simp only [Bool.and_eq_true, decide_eq_true_eq] at e
    omega
  have h1 : (x.val == 0) = true → 0 ≤ x.val ∧ x.val ≤ 1000 := fun e => by
    have : x.val = 0 := by simpa using e
    omega
  unfold mayB at h
  repeat' split at h
  all_goals first
    | (simp only [Bool.and_eq_true] at h; exact h0 h.1.2)
    | (simp only [Bool.and_eq_true] at h; exact h1 h.1.2)
    | simp at h

theorem insF_may {T : List (List Ins)} {i : Nat} (h : insF T i = none) : ∀ l ∈ T, ∀ x ∈ l, mayB x = true := by
  induction T generalizing i with
  | nil => simp
  | cons l T ih =>
    cases hb : badAt l 0 with
    | some j => rw [insF_bad hb] at h; cases h
    | none =>
      rw [insF_ok hb] at h
      intro m hm x hx
      rcases List.mem_cons.1 hm with rfl | hm
      · exact badAt_none hb x hx
      · exact ih h m hm x hx

theorem chk_may {T : List (List Ins)} {c : List Atm} (h : ((chk T c).1 == 0) = true) : ∀ l ∈ T, ∀ x ∈ l, mayB x = true := by
  unfold chk at h
  cases hs : sizeB T c
  · rw [hs] at h; simp at h
  · rw [hs] at h
    cases hi : insF T 0 with
    | none => exact insF_may hi
    | some p => rw [hi] at h; simp at h

theorem chk_atms {T : List (List Ins)} {c : List Atm} (h : ((chk T c).1 == 0) = true) : AtmsOk T.length c := by
  have hs := chk_zero h
  cases hi : insF T 0 with
  | some p => rw [chk_ins hs hi] at h; simp at h
  | none =>
    cases hn : nstF T 0 with
    | some p => rw [chk_nst hs hi hn] at h; simp at h
    | none =>
      cases ha : atmF c 0 T.length with
      | some p => rw [chk_atm hs hi hn ha] at h; simp at h
      | none => exact atms_ok ha

theorem chk_vals {T : List (List Ins)} {c : List Atm} (h : ((chk T c).1 == 0) = true) : ∀ y ∈ evsT T 0, 0 ≤ y.ins.val ∧ y.ins.val ≤ 1000 := by
  intro y hy
  obtain ⟨i, p, l, _, _, _, hl, hp, _⟩ := evsT_mem hy
  exact mayB_val (chk_may h l (List.mem_of_getElem? hl) y.ins (List.mem_of_getElem? hp))

end Go.Proofs.YtomijmikkbhgmaaGreat
