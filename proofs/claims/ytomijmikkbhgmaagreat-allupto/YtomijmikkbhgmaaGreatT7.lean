import Derived.Test.YtomijmikkbhgmaaGreatT4
import Derived.Test.YtomijmikkbhgmaaGreatMath6
import Derived.Test.YtomijmikkbhgmaaGreatQa
import Derived.Deep.OwnRows
import Derived.Deep.CutRange
import Derived.Deep.RegionWith
import Derived.Deep.RegionLaw
import Derived.BigQuiet
import Derived.StillTailTactics
namespace Go.Proofs.YtomijmikkbhgmaaGreat
open Go.RowKit

/-- The reads: their numbers, and they themselves. -/
def rdsX : List Evt → Nat → List (Nat × Evt)
  | [], _ => []
  | x :: E, i => if x.kind == 0 then (i, x) :: rdsX E (i + 1) else rdsX E (i + 1)
def rdsI (E : List Evt) (i : Nat) : List Int := (rdsX E i).map fun p => (p.1 : Int)

theorem rdsX_hit {x : Evt} (h : (x.kind == 0) = true) (E : List Evt) (i : Nat) : rdsX (x :: E) i = (i, x) :: rdsX E (i + 1) := by rw [rdsX, if_pos h]
theorem rdsX_mis {x : Evt} (h : (x.kind == 0) = false) (E : List Evt) (i : Nat) : rdsX (x :: E) i = rdsX E (i + 1) := by rw [rdsX, if_neg (by simp [h])]

theorem rdo_eq (E R : List Evt) (i : Nat) : rdo E R = (rdsX R i).map fun p => -1 :: wrs E 0 p.2.loc := by
  induction R generalizing i with
  | nil => rfl
  | cons x R ih =>
    cases h : x.kind == 0
    · rw [rdsX_mis h, rdo, if_neg (by simp [h])]; exact ih (i + 1)
    · rw [rdsX_hit h, rdo, if_pos h, List.map_cons, ih (i + 1)]

theorem rdsX_get {R : List Evt} {i : Nat} {p : Nat × Evt} (h : p ∈ rdsX R i) : i ≤ p.1 ∧ R[p.1 - i]? = some p.2 := by
  induction R generalizing i with
  | nil => simp [rdsX] at h
  | cons x R ih =>
    have key : p ∈ rdsX R (i + 1) → i ≤ p.1 ∧ (x :: R)[p.1 - i]? = some p.2 := by
      intro hp
      obtain ⟨h1, h2⟩ := ih hp
      refine ⟨by omega, ?_⟩
      rw [show p.1 - i = (p.1 - (i + 1)) + 1 by omega]
      simpa using h2
    cases hk : x.kind == 0
    · rw [rdsX_mis hk] at h; exact key h
    · rw [rdsX_hit hk] at h
      rcases List.mem_cons.1 h with rfl | h
      · simp
      · exact key h

theorem rdsX_len (R : List Evt) (i : Nat) : (rdsX R i).length ≤ R.length := by
  induction R generalizing i with
  | nil => simp [rdsX]
  | cons x R ih => have := ih (i + 1); unfold rdsX; split <;> simp <;> omega

set_option maxHeartbeats 1000000 in
theorem reads_any (E : List Evt) (hE : E.length ≤ 96) (v : Value) (w : World) (h : Ev9At w v E) :
    Calls Tryz.prog 107 #[v] w fun e w' => ∃ u, e = .returned u ∧ IntNew w.heap.size w' u (rdsI E 0) ∧ Below w.heap.size w w' := by
  obtain ⟨ao, b, off, cap, hv, ha, _, hc⟩ := h
  subst hv
  obtain ⟨i0, hi, hz0, hz1, hz2⟩ := info_parts Tryz.info3
  have HI : Hid (Tryz.prog.info? 3 = some i0 ∧ i0.zero = some (.int .i64 0) ∧ i0.size = 1 ∧ i0.bytes = 8) := ⟨hi, hz0, hz1, hz2⟩
  clear hi hz0 hz1 hz2
  go_enter Tryz.func107, Tryz.ntmps107
  go_wp2_with fail
  go_loopw [3, 4] (fun u i wr => ∃ (k : Nat) (xs : List Int), k ≤ E.length ∧ i = .int .i64 k ∧ xs.length ≤ k ∧ Hid (rdsI E 0 = xs ++ rdsI (E.drop k) k) ∧ wr.ownsRow w.heap.size 3 1 u xs.length (xs.map (Value.int .i64)) ∧ Below w.heap.size w wr) (fun _ i _ => E.length - (intOf i).toNat)
  case atStart => exact ⟨0, [], Nat.zero_le _, rfl, Nat.le_refl _, rfl, World.ownsRow_nil _ _ _ _, Below.refl _ _⟩
  case round =>
    obtain ⟨k, xs, hk, rfl, hxk, hn, hown, hb⟩ := hrel
    have hsz := hb.size
    by_cases hlt : k < E.length
    · obtain ⟨x, hx⟩ := get_of_lt hlt
      have hC := hc k x hx
      have hbl := hC.lt
      obtain rfl := ha (ne_nil hlt)
      obtain ⟨_, _, c2, _, _, _, _, _, _⟩ := ev9C_keeps _ _ _ _ _ hb hC
      have HN : Hid (rdsI E 0 = xs ++ rdsI (x :: E.drop (k + 1)) k) := by rw [← drop_cons hx]; exact hn
      have HC : Hid (∀ k x, E[k]? = some x → Ev9C w b (off + k * 9) x) := hc
      clear hn hx hc hC ha
      cases h1 : x.kind == 0
      · have HM : Hid (rdsI E 0 = xs ++ rdsI (E.drop (k + 1)) (k + 1)) := HN.out.trans (by unfold rdsI; rw [rdsX_mis h1])
        go_wp2_with fail
        go_roundw
        case measure => simp [intOf]; omega
        case rel => exact ⟨k + 1, xs, by omega, by go_num, by omega, HM.out, hown, hb⟩
      · have HM : Hid (rdsI E 0 = (xs ++ [(k : Int)]) ++ rdsI (E.drop (k + 1)) (k + 1)) := HN.out.trans (by unfold rdsI; rw [rdsX_hit h1]; simp)
        go_wp2_with (at_builtin; refine append_new _ rfl (.tmp 17) (.tmp 19) 26 rfl w.heap.size 3 i0 (.int .i64 0) 1 8 Tryz.underlying26 HI.out.1 HI.out.2.1 HI.out.2.2.1 HI.out.2.2.2 rfl (by decide) u3 xs.length (xs.map (Value.int .i64)) rfl (hown.alloc _) (some ⟨wr.heap.size, 0, none⟩) 1 1 [.int .i64 k] rfl (fun h => by cases h) rfl (fun ad had => by cases had; exact new_one rfl) (by simp [Value.oneCell']) (by unfold maxLen; omega) (by omega) (by simp; omega) ?_)
        intro u' w1 hown' hgrow _
        have hb' : Below w.heap.size w w1 := Below.grown (hb.alloc hsz _) hgrow (by simp; omega) (fun kk e => (hown.lt kk e).1)
        have HO : Hid (w1.ownsRow w.heap.size 3 1 u' (xs ++ [(k : Int)]).length ((xs ++ [(k : Int)]).map (Value.int .i64))) := own_snoc hown'
        clear hgrow hown hown'
        go_wp2_with fail
        go_roundw
        case measure => simp [intOf]; omega
        case rel => exact ⟨k + 1, xs ++ [(k : Int)], by omega, by go_num, by simp; omega, HM.out, HO.out, hb'⟩
    · have HM : Hid (rdsI E 0 = xs) := hn.out.trans (by rw [drop_nil hlt]; simp [rdsI, rdsX])
      clear hn hc ha
      go_wp2_with fail
      go_ret
      exact ⟨_, rfl, by rw [HM.out]; exact owns_int hown, hb⟩

theorem int_cells {w : World} {v : Value} {l : List Int} {ao : Option Addr} {b off cap : Nat} (h : SlAt w 1 IntC v l ao b off cap) : ∀ ad, ao = some ad → ∀ j u, (l.map (Value.int .i64))[j]? = some u → w.cell? (ad.add j) = some u := by
  intro ad had j u hj
  rw [List.getElem?_map] at hj
  obtain ⟨x, hx, rfl⟩ := Option.map_eq_some_iff.1 hj
  have hk : j < l.length := (List.getElem?_eq_some_iff.1 hx).1
  rw [h.ha (ne_nil hk)] at had
  cases had
  have hC := h.hc j x hx
  unfold IntC at hC
  rw [Nat.mul_one] at hC
  rw [Addr.add_lit]; exact hC

set_option maxHeartbeats 1000000 in
theorem longer_any (l : List Int) (hl : l.length ≤ 100000) (x : Int) (v : Value) (w : World) (h : IntAt w v l) :
    Calls Tryz.prog 159 #[v, .int .i64 x] w fun e w' => ∃ u, e = .returned u ∧ IntOwn w.heap.size w' u (l ++ [x]) ∧ Below w.heap.size w w' := by
  obtain ⟨ao, b, off, cap, hs⟩ := h
  have hv := hs.hv
  subst hv
  have HS : Hid (SlAt w 1 IntC (.slice ao l.length cap) l ao b off cap) := hs
  clear hs
  obtain ⟨i0, hi, hz0, hz1, hz2⟩ := info_parts Tryz.info3
  have HI : Hid (Tryz.prog.info? 3 = some i0 ∧ i0.zero = some (.int .i64 0) ∧ i0.size = 1 ∧ i0.bytes = 8) := ⟨hi, hz0, hz1, hz2⟩
  clear hi hz0 hz1 hz2
  go_enter Tryz.func159, Tryz.ntmps159
  go_wp2_with (at_builtin; refine append_new _ rfl (.tmp 6) (.tmp 7) 26 rfl w.heap.size 3 i0 (.int .i64 0) 1 8 Tryz.underlying26 HI.out.1 HI.out.2.1 HI.out.2.2.1 HI.out.2.2.2 rfl (by decide) (.slice none 0 0) 0 [] rfl (World.ownsRow_nil _ _ _ _) ao l.length cap (l.map (Value.int .i64)) rfl (fun h => ⟨by rw [(HS.out.hn h).1]; rfl, (HS.out.hn h).2⟩) (by simp) (int_cells HS.out) (ints_oneCell .i64 l) (by unfold maxLen; omega) (by omega) (Nat.le_refl _) ?_)
  intro v1 w1 hown1 hgrow1 _
  have hb1 : Below w.heap.size w w1 := Below.grown (Below.refl _ _) hgrow1 (Nat.le_refl _) (fun kk e => by simp [Value.ownBlock] at e)
  have hw1 : w1.ownsRow w.heap.size 3 1 v1 l.length (l.map (Value.int .i64)) := by simpa using hown1
  have hs1 := hb1.size
  clear hown1 hgrow1
  go_wp2_with (at_builtin; refine append_new _ rfl (.tmp 9) (.tmp 11) 26 rfl w.heap.size 3 i0 (.int .i64 0) 1 8 Tryz.underlying26 HI.out.1 HI.out.2.1 HI.out.2.2.1 HI.out.2.2.2 rfl (by decide) v1 l.length (l.map (Value.int .i64)) rfl (hw1.alloc _) (some ⟨w1.heap.size, 0, none⟩) 1 1 [.int .i64 x] rfl (fun h => by cases h) rfl (fun ad had => by cases had; exact new_one rfl) (by simp [Value.oneCell']) (by unfold maxLen; omega) (by omega) (by simp; omega) ?_)
  intro v2 w2 hown2 hgrow2 _
  have hb2 : Below w.heap.size w w2 := Below.grown (hb1.alloc hs1 _) hgrow2 (by simp; omega) (fun kk e => (hw1.lt kk e).1)
  have hw2 : w2.ownsRow w.heap.size 3 1 v2 (l ++ [x]).length ((l ++ [x]).map (Value.int .i64)) := own_snoc hown2
  clear hown2 hgrow2 hw1
  go_wp2_with fail
  go_ret
  exact ⟨_, rfl, owns_own hw2, hb2⟩

end Go.Proofs.YtomijmikkbhgmaaGreat

namespace Go.Proofs.YtomijmikkbhgmaaGreat

def restG : List Int → Int → List Int
  | [], _ => []
  | x :: l, w => if x == w then l else restG l w
/-- What stands behind a write (-1: everything) in a list. -/
def restL (l : List Int) (w : Int) : List Int := if w == -1 then l else restG l w

theorem restG_len (l : List Int) (w : Int) : (restG l w).length ≤ l.length := by
  induction l with
  | nil => simp [restG]
  | cons x l ih => unfold restG; split <;> simp <;> omega
theorem restL_len (l : List Int) (w : Int) : (restL l w).length ≤ l.length := by
  unfold restL; split
  · exact Nat.le_refl _
  · exact restG_len l w

theorem restG_mem {l : List Int} {w v : Int} (h : v ∈ restG l w) : v ∈ l := by
  induction l with
  | nil => simp [restG] at h
  | cons x l ih =>
    unfold restG at h
    split at h
    · exact List.mem_cons_of_mem _ h
    · exact List.mem_cons_of_mem _ (ih h)
theorem restL_mem {l : List Int} {w v : Int} (h : v ∈ restL l w) : v ∈ l := by
  unfold restL at h
  split at h
  · exact h
  · exact restG_mem h

def fanL (f : Int) (l : List Int) : List (Int × Int) := l.map fun b => (f, b)

def tailsL : List Int → List (Int × Int)
  | [] => []
  | a :: l => fanL a l ++ tailsL l

def ordAt (x : Exe) (loc : Int) : List Int := x.order.getD loc.toNat []

/-- The arrows that have to do with one read. -/
def arw1 (x : Exe) (q : (Nat × Evt) × Int) : List (Int × Int) :=
  (if q.2 == -1 then [] else [(q.2, (q.1.1 : Int))]) ++ fanL (q.1.1 : Int) (restL (ordAt x q.1.2.loc) q.2)

def arwL (E : List Evt) (x : Exe) : List (Int × Int) := ((rdsX E 0).zip x.from').flatMap (arw1 x) ++ x.order.flatMap tailsL

theorem fanL_len (f : Int) (l : List Int) : (fanL f l).length = l.length := List.length_map ..
theorem fanL_mem {f : Int} {l : List Int} {p : Int × Int} : p ∈ fanL f l ↔ p.1 = f ∧ p.2 ∈ l := by
  unfold fanL
  rw [List.mem_map]
  constructor
  · rintro ⟨b, hb, rfl⟩; exact ⟨rfl, hb⟩
  · rintro ⟨h1, h2⟩; exact ⟨p.2, h2, by rw [← h1]⟩

theorem tailsL_len (l : List Int) : (tailsL l).length ≤ l.length * l.length := by
  induction l with
  | nil => simp [tailsL]
  | cons a l ih =>
    unfold tailsL
    rw [List.length_append, fanL_len, List.length_cons, Nat.mul_add, Nat.add_mul]
    omega

theorem tailsL_mem {l : List Int} {p : Int × Int} (h : p ∈ tailsL l) : p.1 ∈ l ∧ p.2 ∈ l := by
  induction l with
  | nil => simp [tailsL] at h
  | cons a l ih =>
    unfold tailsL at h
    rcases List.mem_append.1 h with h | h
    · obtain ⟨h1, h2⟩ := fanL_mem.1 h
      exact ⟨by rw [h1]; exact List.mem_cons_self .., List.mem_cons_of_mem _ h2⟩
    · exact ⟨List.mem_cons_of_mem _ (ih h).1, List.mem_cons_of_mem _ (ih h).2⟩

end Go.Proofs.YtomijmikkbhgmaaGreat

namespace Go.Proofs.YtomijmikkbhgmaaGreat
open Go.RowKit

/-- The slice that 'rest' hands out. -/
def dropA (ao : Option Addr) (cap k : Nat) : Option Addr := match ao with
  | some a => if cap = k then some a else some ⟨a.block, a.off + k, none⟩
  | none => none
def restW (n : Nat) (ao : Option Addr) (cap : Nat) (x : Int) : List Int → Nat → Value
  | [], _ => .slice none 0 0
  | y :: l, k => if y == x then .slice (dropA ao cap (k + 1)) (n - (k + 1)) (cap - (k + 1)) else restW n ao cap x l (k + 1)
def restV (n : Nat) (ao : Option Addr) (cap : Nat) (l : List Int) (x : Int) : Value := if x == -1 then .slice ao n cap else restW n ao cap x l 0

theorem restW_cap {w : World} {l : List Int} {ao : Option Addr} {cap : Nat} (h : IntCap w (.slice ao l.length cap) l) (hc : l.length ≤ cap) (x : Int) (k : Nat) (hk : k ≤ l.length) : IntCap w (restW l.length ao cap x (l.drop k) k) (restG (l.drop k) x) := by
  generalize hm : l.length - k = m
  induction m generalizing k with
  | zero => rw [drop_nil (by omega)]; exact intCap_nil _
  | succ m ih =>
    have hlt : k < l.length := by omega
    obtain ⟨y, hy⟩ := get_of_lt hlt
    rw [drop_cons hy]
    unfold restW restG
    split
    · obtain ⟨ao', b, off, cap', hs, _⟩ := h
      have hv := hs.hv
      simp only [Value.slice.injEq] at hv
      obtain ⟨rfl, _, rfl⟩ := hv
      have ha := hs.ha (ne_nil hlt)
      subst ha
      exact intCap_drop hs hc (by omega)
    · exact ih (k + 1) (by omega) (by omega)

theorem restV_cap {w : World} {l : List Int} {ao : Option Addr} {cap : Nat} (h : IntCap w (.slice ao l.length cap) l) (hc : l.length ≤ cap) (x : Int) : IntCap w (restV l.length ao cap l x) (restL l x) := by
  unfold restV restL
  split
  · exact h
  · exact restW_cap h hc x 0 (Nat.zero_le _)

theorem restW_hit {n cap k b off : Nat} {x : Int} (l : List Int) : restW n (some ⟨b, off, none⟩) cap x (x :: l) k = .slice (if cap = k + 1 then (some ⟨b, off, none⟩ : Option Addr) else some ⟨b, off + (k + 1), none⟩) (n - (k + 1)) (cap - (k + 1)) := by
  rw [restW, if_pos (by simp)]; rfl
theorem restW_mis {n cap k : Nat} {ao : Option Addr} {x y : Int} (h : (y == x) = false) (l : List Int) : restW n ao cap x (y :: l) k = restW n ao cap x l (k + 1) := by rw [restW, if_neg (by simp [h])]

set_option maxHeartbeats 1000000 in
theorem rest_at (l : List Int) (hl : l.length ≤ 100000) (x : Int) (ao : Option Addr) (cap : Nat) (_hcap : l.length ≤ cap) (w : World) (h : IntAt w (.slice ao l.length cap) l) :
    Calls Tryz.prog 146 #[.slice ao l.length cap, .int .i64 x] w fun e w' => e = .returned (restV l.length ao cap l x) ∧ w' = w := by
  obtain ⟨ao', b, off, cap', hs⟩ := h
  have hv := hs.hv
  simp only [Value.slice.injEq] at hv
  obtain ⟨rfl, _, rfl⟩ := hv
  have ha := hs.ha
  have HC : Hid (∀ k x, l[k]? = some x → IntC w b (off + k * 1) x) := hs.hc
  clear hs
  cases hx : x == -1
  · have HR : Hid (restV l.length ao cap l x = restW l.length ao cap x (l.drop 0) 0) := by show restV _ _ _ _ _ = _; unfold restV; rw [hx]; rfl
    generalize restV l.length ao cap l x = R at HR ⊢
    go_enter Tryz.func146, Tryz.ntmps146
    go_wp2_with fail
    go_loop [5] (fun i => ∃ k : Nat, k ≤ l.length ∧ i = .int .i64 k ∧ Hid (R = restW l.length ao cap x (l.drop k) k)) (fun i => l.length - (intOf i).toNat)
    case atStart => exact ⟨0, Nat.zero_le _, rfl, HR.out⟩
    case round =>
      clear HR
      obtain ⟨k, hk, rfl, hn⟩ := hrel
      by_cases hlt : k < l.length
      · obtain ⟨y, hy⟩ := get_of_lt hlt
        have hao := ha (ne_nil hlt)
        subst hao
        have HN : Hid (R = restW l.length (some ⟨b, off, none⟩) cap x (y :: l.drop (k + 1)) k) := by rw [← drop_cons hy]; exact hn
        have c0 := HC.out k y hy
        unfold IntC at c0
        rw [Nat.mul_one] at c0
        have hkI : (k : Int) < (l.length : Int) := by omega
        clear hn hy
        cases hxy : y == x
        · have HM : Hid (R = restW l.length (some ⟨b, off, none⟩) cap x (l.drop (k + 1)) (k + 1)) := HN.out.trans (restW_mis hxy _)
          clear HN
          go_wp2_with fail
          go_round
          case measure => simp [intOf]; omega
          case rel => exact ⟨k + 1, by omega, by go_num, HM.out⟩
        · have exy : y = x := by simpa using hxy
          subst exy
          obtain ⟨aoX, hX⟩ : ∃ aoX, (if cap = k + 1 then (some ⟨b, off, none⟩ : Option Addr) else some ⟨b, off + (k + 1), none⟩) = aoX := ⟨_, rfl⟩
          have HM : Hid (R = .slice aoX (l.length - (k + 1)) (cap - (k + 1))) := HN.out.trans (by rw [restW_hit, hX])
          clear HN
          go_wp2_with fail
          go_ret
          exact ⟨by rw [HM.out]; rfl, rfl⟩
      · have HM : Hid (R = .slice none 0 0) := hn.out.trans (by rw [drop_nil hlt]; rfl)
        clear hn
        go_wp2_with fail
        go_ret
        exact ⟨by rw [HM.out]; rfl, rfl⟩
  · have HR : Hid (restV l.length ao cap l x = .slice ao l.length cap) := by show restV _ _ _ _ _ = _; unfold restV; rw [hx]; rfl
    have hx1 : x = -1 := by simpa using hx
    subst hx1
    go_enter Tryz.func146, Tryz.ntmps146
    go_wp2_with fail
    go_ret
    exact ⟨by rw [HR.out]; rfl, rfl⟩

theorem Tryz.infoArw : (Tryz.prog.info? 178).map (fun i => (i.zero, i.size, i.bytes)) = some (some (.agg #[.int .i64 0, .int .i64 0]), 2, 16) := by kernel_rfl

def arwV (p : Int × Int) : List Value := [.int .i64 p.1, .int .i64 p.2]

def ArwOwn (base : Nat) (w : World) (u : Value) (A : List (Int × Int)) : Prop := w.ownsRow base 178 2 u A.length (A.flatMap arwV)

theorem ArwOwn.at' {base : Nat} {w : World} {u : Value} {A : List (Int × Int)} (h : ArwOwn base w u A) : ArwAt w u A := by
  obtain ⟨ao, b, off, cap, h, _⟩ := owns_read (C := ArwC) arwV 2 (fun _ => rfl) (fun b off x hx => ⟨hx 0 _ rfl, hx 1 _ rfl⟩) h
  exact ⟨ao, b, off, cap, h⟩

theorem arw_snoc {base : Nat} {w : World} {u : Value} {A : List (Int × Int)} {p : Int × Int} (h : w.ownsRow base 178 2 u (A.length + 1) (A.flatMap arwV ++ arwV p)) : ArwOwn base w u (A ++ [p]) := by
  unfold ArwOwn
  rw [List.length_append, List.flatMap_append, List.flatMap_cons, List.flatMap_nil, List.append_nil]
  exact h

set_option maxHeartbeats 1000000 in
theorem fan_any (A : List (Int × Int)) (hA : A.length ≤ 1000000) (L : List Int) (hL : L.length ≤ 100000) (f : Int) (base : Nat) (u v : Value) (w0 w : World) (hw : Below w0.heap.size w0 w) (h0 : w0.heap.size ≤ base) (hbw : base ≤ w.heap.size) (hown : ArwOwn base w u A) (hto : IntAt w0 v L) :
    Calls Tryz.prog 164 #[u, .int .i64 f, v] w fun e w' => ∃ u', e = .returned u' ∧ ArwOwn base w' u' (A ++ fanL f L) ∧ Below base w w' := by
  obtain ⟨ao, b, off, cap, hv, ha, _, hc⟩ := hto
  subst hv
  have HC : Hid (∀ k x, L[k]? = some x → IntC w0 b (off + k * 1) x) := hc
  have HW : Hid (Below w0.heap.size w0 w) := hw
  obtain ⟨i0, hi, hz0, hz1, hz2⟩ := info_parts Tryz.infoArw
  have HI : Hid (Tryz.prog.info? 178 = some i0 ∧ i0.zero = some (.agg #[.int .i64 0, .int .i64 0]) ∧ i0.size = 2 ∧ i0.bytes = 16) := ⟨hi, hz0, hz1, hz2⟩
  have HF : Hid (A ++ fanL f L = A ++ fanL f (L.drop 0)) := rfl
  generalize A ++ fanL f L = R at HF ⊢
  have HO : Hid (ArwOwn base w u A) := hown
  clear hi hz0 hz1 hz2 hc hown hw
  go_enter Tryz.func164, Tryz.ntmps164
  go_wp2_with fail
  go_loopw [0, 7] (fun u i wr => ∃ (k : Nat) (B : List (Int × Int)), k ≤ L.length ∧ i = .int .i64 k ∧ B.length ≤ 1000000 + k ∧ Hid (R = B ++ fanL f (L.drop k)) ∧ Hid (ArwOwn base wr u B) ∧ Below base w wr) (fun _ i _ => L.length - (intOf i).toNat)
  case atStart => exact ⟨0, A, Nat.zero_le _, rfl, by omega, HF.out, HO.out, Below.refl _ _⟩
  case round =>
    clear HF HO
    obtain ⟨k, B, hk, rfl, hB, hn, hown, hb⟩ := hrel
    have hsz := hb.size
    by_cases hlt : k < L.length
    · obtain ⟨x, hx⟩ := get_of_lt hlt
      obtain rfl := ha (ne_nil hlt)
      have c0 := intC_keeps _ _ _ _ _ (HW.out.trans (hb.mono h0)) (HC.out k x hx)
      unfold IntC at c0
      rw [Nat.mul_one] at c0
      have m0 := World.block_lt_of_cell? _ _ c0
      have HM : Hid (R = (B ++ [(f, x)]) ++ fanL f (L.drop (k + 1))) := hn.out.trans (by rw [drop_cons hx]; simp [fanL])
      have HO : Hid (wr.ownsRow base 178 2 u0 B.length (B.flatMap arwV)) := hown.out
      have hkI : (k : Int) < (L.length : Int) := by omega
      clear hn hx hown
      go_wp2_with (at_builtin; refine append_new _ rfl (.tmp 14) (.tmp 21) 151 rfl base 178 i0 (.agg #[.int .i64 0, .int .i64 0]) 2 16 Tryz.underlying151 HI.out.1 HI.out.2.1 HI.out.2.2.1 HI.out.2.2.2 rfl (by decide) u0 B.length (B.flatMap arwV) rfl (HO.out.alloc _) (some ⟨wr.heap.size, 0, none⟩) 1 1 (arwV (f, x)) rfl (fun h => by cases h) rfl (fun ad had => by cases had; exact new_many rfl) (by simp [arwV, Value.oneCell']) (by unfold maxLen; omega) (by omega) (by simp; omega) ?_)
      intro u' w1 hown' hgrow _
      have hb' : Below base w w1 := Below.grown (hb.alloc (by omega) _) hgrow (by simp; omega) (fun kk e => (HO.out.lt kk e).1)
      have HO2 : Hid (ArwOwn base w1 u' (B ++ [(f, x)])) := arw_snoc hown'
      clear hgrow hown' HO hb
      go_wp2_with fail
      go_roundw
      case measure => simp [intOf]; omega
      case rel => exact ⟨k + 1, B ++ [(f, x)], by omega, by go_num, by simp; omega, HM.out, HO2.out, hb'⟩
    · have HM : Hid (R = B) := hn.out.trans (by rw [drop_nil hlt]; simp [fanL])
      have HO := hown
      clear hn hown
      go_wp2_with fail
      go_ret
      exact ⟨_, rfl, by rw [HM.out]; exact HO.out, hb⟩

end Go.Proofs.YtomijmikkbhgmaaGreat

namespace Go.Proofs.YtomijmikkbhgmaaGreat
open Go.RowKit

def memB (k : Int) : Bool := k == 0 || k == 1

theorem memory_any (n : Int) (w : World) :
    Calls Tryz.prog 145 #[.int .i64 n] w fun e w' => e = .returned (.bool (memB n)) ∧ w' = w := by
  unfold memB
  go_enter Tryz.func145, Tryz.ntmps145
  go_wp2
  all_goals go_ret
  all_goals exact ⟨ret_bool (by first | (simp [*]; done) | (simp; omega)), rfl⟩

def evV (y : Evt) : Value := .agg #[.int .i64 y.thread, .int .i64 y.place, .int .i64 y.kind, .int .i64 y.loc, .int .i64 y.ins.op, .int .i64 y.ins.loc, .int .i64 y.ins.reg, .int .i64 y.ins.val, .int .i64 y.ins.mode]

def markB (a b : Evt) : Bool := (a.kind == 2 || a.kind == 4 || a.kind == 5) || ((b.kind == 3 || b.kind == 4 || b.kind == 5) || ((a.kind == 0 && a.ins.mode == 1) || (b.kind == 1 && b.ins.mode == 2)))

set_option maxHeartbeats 1000000 in
theorem marked_any (a b : Evt) (w : World) :
    Calls Tryz.prog 166 #[evV a, evV b] w fun e w' => e = .returned (.bool (markB a b)) ∧ Below w.heap.size w w' := by
  unfold markB evV
  go_enter Tryz.func166, Tryz.ntmps166
  go_wp2
  all_goals go_ret
  all_goals exact ⟨ret_bool (by first | (simp [*]; done) | (simp_all; done) | (simp_all; omega)), below_two _ _ _⟩

/-- The last Read of a thread into a register, or what is told. -/
def srcG (y : Evt) : List Evt → Nat → Int → Int
  | [], _, at' => at'
  | z :: l, i, at' => srcG y l (i + 1) (if z.kind == 0 && z.thread == y.thread && z.ins.reg == y.ins.reg then (i : Int) else at')

set_option maxRecDepth 20000 in
set_option maxHeartbeats 1000000 in
theorem source_any (E : List Evt) (hE : E.length ≤ 96) (b' : Nat) (y : Evt) (hy : E[b']? = some y) (v : Value) (w : World) (h : Ev9At w v E) :
    Calls Tryz.prog 122 #[v, .int .i64 b'] w fun e w' => e = .returned (.int .i64 (srcG y (E.take b') 0 (-1))) ∧ Below w.heap.size w w' := by
  obtain ⟨ao, b, off, cap, hv, ha, _, hc⟩ := h
  subst hv
  have hbl : b' < E.length := (List.getElem?_eq_some_iff.1 hy).1
  obtain rfl := ha (ne_nil hbl)
  have HC : Hid (∀ k y, E[k]? = some y → Ev9C w b (off + k * 9) y) := hc
  have HY : Hid (Ev9C w b (off + b' * 9) y) := hc b' y hy
  have HS : Hid (srcG y (E.take b') 0 (-1) = srcG y ((E.take b').drop 0) 0 (-1)) := rfl
  generalize srcG y (E.take b') 0 (-1) = S at HS ⊢
  clear hc hy ha
  go_enter Tryz.func122, Tryz.ntmps122
  go_wp2_with fail
  go_loopw [5, 6] (fun at' i wr => ∃ (k : Nat) (a : Int), k ≤ b' ∧ i = .int .i64 k ∧ at' = .int .i64 a ∧ Hid (S = srcG y ((E.take b').drop k) k a) ∧ Below w.heap.size w wr) (fun _ i _ => b' - (intOf i).toNat)
  case atStart => exact ⟨0, -1, Nat.zero_le _, rfl, rfl, HS.out, Below.refl _ _⟩
  case round =>
    clear HS
    obtain ⟨k, a, hk, rfl, rfl, hn, hb⟩ := hrel
    by_cases hlt : k < b'
    · obtain ⟨z, hz⟩ := get_of_lt (l := E) (k := k) (by omega)
      have hz2 : (E.take b')[k]? = some z := by rw [List.getElem?_take_of_lt hlt]; exact hz
      obtain ⟨c0, _, c2, _, _, _, c6, _, _⟩ := ev9C_keeps _ _ _ _ _ hb (HC.out k z hz)
      obtain ⟨d0, _, _, _, _, _, d6, _, _⟩ := ev9C_keeps _ _ _ _ _ hb HY.out
      have hkI : (k : Int) < (b' : Int) := by omega
      have hkE : (k : Int) < (E.length : Int) := by omega
      have hbE : (b' : Int) < (E.length : Int) := by omega
      have HN : Hid (S = srcG y ((E.take b').drop (k + 1)) (k + 1) (if z.kind == 0 && z.thread == y.thread && z.ins.reg == y.ins.reg then (k : Int) else a)) := hn.out.trans (by rw [drop_cons hz2]; rfl)
      clear hn hz hz2
      cases h0 : z.kind == 0
      · have HM : Hid (S = srcG y ((E.take b').drop (k + 1)) (k + 1) a) := HN.out.trans (by rw [h0]; rfl)
        go_wp2_with fail
        go_quiet (fail)
        go_wp2_with fail
        go_roundw
        case measure => simp [intOf]; omega
        case rel => exact ⟨k + 1, a, by omega, by go_num, rfl, HM.out, below_drewN hb _⟩
      · cases h1 : z.thread == y.thread
        · have HM : Hid (S = srcG y ((E.take b').drop (k + 1)) (k + 1) a) := HN.out.trans (by rw [h0, h1]; rfl)
          go_wp2_with fail
          go_quiet (fail)
          go_wp2_with fail
          go_roundw
          case measure => simp [intOf]; omega
          case rel => exact ⟨k + 1, a, by omega, by go_num, rfl, HM.out, below_drewN hb _⟩
        · cases h2 : z.ins.reg == y.ins.reg
          · have HM : Hid (S = srcG y ((E.take b').drop (k + 1)) (k + 1) a) := HN.out.trans (by rw [h0, h1, h2]; rfl)
            go_wp2_with fail
            go_quiet (fail)
            go_wp2_with fail
            go_roundw
            case measure => simp [intOf]; omega
            case rel => exact ⟨k + 1, a, by omega, by go_num, rfl, HM.out, below_drewN hb _⟩
          · have HM : Hid (S = srcG y ((E.take b').drop (k + 1)) (k + 1) (k : Int)) := HN.out.trans (by rw [h0, h1, h2]; rfl)
            go_wp2_with fail
            go_quiet (fail)
            go_wp2_with fail
            go_roundw
            case measure => simp [intOf]; omega
            case rel => exact ⟨k + 1, (k : Int), by omega, by go_num, rfl, HM.out, below_drewN hb _⟩
    · have HM : Hid (S = a) := hn.out.trans (by rw [drop_nil (l := E.take b') (k := k) (by rw [List.length_take]; omega)]; rfl)
      have hkI : (b' : Int) ≤ (k : Int) := by omega
      clear hn
      go_wp2_with fail
      go_ret
      exact ⟨by rw [HM.out]; rfl, hb⟩

/-- The events of a kind. -/
def thoL (kd : Int) : List Evt → Nat → List Int
  | [], _ => []
  | x :: E, i => if x.kind == kd then (i : Int) :: thoL kd E (i + 1) else thoL kd E (i + 1)

set_option maxHeartbeats 1000000 in
theorem those_any (E : List Evt) (hE : E.length ≤ 96) (kd : Int) (v : Value) (w : World) (h : Ev9At w v E) :
    Calls Tryz.prog 149 #[v, .int .i64 kd] w fun e w' => ∃ u, e = .returned u ∧ IntNew w.heap.size w' u (thoL kd E 0) ∧ Below w.heap.size w w' := by
  obtain ⟨ao, b, off, cap, hv, ha, _, hc⟩ := h
  subst hv
  obtain ⟨i0, hi, hz0, hz1, hz2⟩ := info_parts Tryz.info3
  have HI : Hid (Tryz.prog.info? 3 = some i0 ∧ i0.zero = some (.int .i64 0) ∧ i0.size = 1 ∧ i0.bytes = 8) := ⟨hi, hz0, hz1, hz2⟩
  clear hi hz0 hz1 hz2
  go_enter Tryz.func149, Tryz.ntmps149
  go_wp2_with fail
  go_loopw [5, 6] (fun u i wr => ∃ (k : Nat) (xs : List Int), k ≤ E.length ∧ i = .int .i64 k ∧ xs.length ≤ k ∧ Hid (thoL kd E 0 = xs ++ thoL kd (E.drop k) k) ∧ wr.ownsRow w.heap.size 3 1 u xs.length (xs.map (Value.int .i64)) ∧ Below w.heap.size w wr) (fun _ i _ => E.length - (intOf i).toNat)
  case atStart => exact ⟨0, [], Nat.zero_le _, rfl, Nat.le_refl _, rfl, World.ownsRow_nil _ _ _ _, Below.refl _ _⟩
  case round =>
    obtain ⟨k, xs, hk, rfl, hxk, hn, hown, hb⟩ := hrel
    have hsz := hb.size
    by_cases hlt : k < E.length
    · obtain ⟨x, hx⟩ := get_of_lt hlt
      have hC := hc k x hx
      have hbl := hC.lt
      obtain rfl := ha (ne_nil hlt)
      obtain ⟨_, _, c2, _, _, _, _, _, _⟩ := ev9C_keeps _ _ _ _ _ hb hC
      have HN : Hid (thoL kd E 0 = xs ++ thoL kd (x :: E.drop (k + 1)) k) := by rw [← drop_cons hx]; exact hn
      have HC : Hid (∀ k x, E[k]? = some x → Ev9C w b (off + k * 9) x) := hc
      clear hn hx hc hC ha
      cases h1 : x.kind == kd
      · have HM : Hid (thoL kd E 0 = xs ++ thoL kd (E.drop (k + 1)) (k + 1)) := HN.out.trans (by rw [thoL, if_neg (by simp [h1])])
        go_wp2_with fail
        go_roundw
        case measure => simp [intOf]; omega
        case rel => exact ⟨k + 1, xs, by omega, by go_num, by omega, HM.out, hown, hb⟩
      · have HM : Hid (thoL kd E 0 = (xs ++ [(k : Int)]) ++ thoL kd (E.drop (k + 1)) (k + 1)) := HN.out.trans (by rw [thoL, if_pos h1]; simp)
        go_wp2_with (at_builtin; refine append_new _ rfl (.tmp 20) (.tmp 22) 26 rfl w.heap.size 3 i0 (.int .i64 0) 1 8 Tryz.underlying26 HI.out.1 HI.out.2.1 HI.out.2.2.1 HI.out.2.2.2 rfl (by decide) u5 xs.length (xs.map (Value.int .i64)) rfl (hown.alloc _) (some ⟨wr.heap.size, 0, none⟩) 1 1 [.int .i64 k] rfl (fun h => by cases h) rfl (fun ad had => by cases had; exact new_one rfl) (by simp [Value.oneCell']) (by unfold maxLen; omega) (by omega) (by simp; omega) ?_)
        intro u' w1 hown' hgrow _
        have hb' : Below w.heap.size w w1 := Below.grown (hb.alloc hsz _) hgrow (by simp; omega) (fun kk e => (hown.lt kk e).1)
        have HO : Hid (w1.ownsRow w.heap.size 3 1 u' (xs ++ [(k : Int)]).length ((xs ++ [(k : Int)]).map (Value.int .i64))) := own_snoc hown'
        clear hgrow hown hown'
        go_wp2_with fail
        go_roundw
        case measure => simp [intOf]; omega
        case rel => exact ⟨k + 1, xs ++ [(k : Int)], by omega, by go_num, by simp; omega, HM.out, HO.out, hb'⟩
    · have HM : Hid (thoL kd E 0 = xs) := hn.out.trans (by rw [drop_nil hlt]; simp [thoL])
      clear hn hc ha
      go_wp2_with fail
      go_ret
      exact ⟨_, rfl, by rw [HM.out]; exact owns_int hown, hb⟩

end Go.Proofs.YtomijmikkbhgmaaGreat

namespace Go.Proofs.YtomijmikkbhgmaaGreat

theorem nodup_le {l m : List Int} (h : l.Nodup) (hs : ∀ x ∈ l, x ∈ m) : l.length ≤ m.length := by
  induction l generalizing m with
  | nil => simp
  | cons a l ih =>
    have ha : a ∈ m := hs a (List.mem_cons_self ..)
    obtain ⟨hn, hl⟩ := List.nodup_cons.1 h
    have h1 := ih hl (m := m.erase a) (fun x hx => (List.mem_erase_of_ne (by rintro rfl; exact hn hx)).2 (hs x (List.mem_cons_of_mem _ hx)))
    rw [List.length_erase_of_mem ha] at h1
    have h2 := List.length_pos_of_mem ha
    rw [List.length_cons]; omega
theorem nodup_cast {l : List Nat} (h : l.Nodup) : (l.map (fun a : Nat => (a : Int))).Nodup := List.Pairwise.map _ (fun a b hab => by omega) h

/-- Does an arrow of the list lead from one event to another? -/
def arwB (A : List (Int × Int)) (a b : Nat) : Bool := A.contains ((a : Int), (b : Int))

theorem arwB_iff {A : List (Int × Int)} {a b : Nat} : arwB A a b = true ↔ ((a : Int), (b : Int)) ∈ A := by unfold arwB; simp

theorem arwB_snoc (A : List (Int × Int)) (p : Int × Int) (a b : Nat) : arwB (A ++ [p]) a b = (decide ((a : Int) = p.1 ∧ (b : Int) = p.2) || arwB A a b) := by
  unfold arwB
  rw [Bool.eq_iff_iff]
  simp [Prod.ext_iff, or_comm]

/-- How many arrows lead into an event, from those below m. -/
def inTo (A : List (Int × Int)) (m j : Nat) : Nat := ((List.range m).filter fun a : Nat => arwB A a j).length

theorem inTo_yes {A : List (Int × Int)} {m j : Nat} (h : arwB A m j = true) : inTo A (m + 1) j = inTo A m j + 1 := by
  unfold inTo; rw [List.range_succ, List.filter_append, List.length_append]; simp [h]
theorem inTo_no {A : List (Int × Int)} {m j : Nat} (h : arwB A m j = false) : inTo A (m + 1) j = inTo A m j := by
  unfold inTo; rw [List.range_succ, List.filter_append, List.length_append]; simp [h]
theorem inTo_le (A : List (Int × Int)) (m j : Nat) : inTo A m j ≤ m := by
  unfold inTo
  have := List.length_filter_le (fun a : Nat => arwB A a j) (List.range m)
  simpa using this

/-- How many arrows lead into an event, from those that are not gone. -/
def cnt (A : List (Int × Int)) (n : Nat) (P : List Int) (j : Nat) : Nat := ((List.range n).filter fun a : Nat => !P.contains (a : Int) && arwB A a j).length

theorem cnt_nil (A : List (Int × Int)) (n j : Nat) : cnt A n [] j = inTo A n j := by unfold cnt inTo; simp

theorem cnt_le (A : List (Int × Int)) (n : Nat) (P : List Int) (j : Nat) : cnt A n P j ≤ n := by
  unfold cnt
  have := List.length_filter_le (fun a : Nat => !P.contains (a : Int) && arwB A a j) (List.range n)
  simpa using this

theorem cnt_zero {A : List (Int × Int)} {n : Nat} {P : List Int} {j : Nat} (h : cnt A n P j = 0) {a : Nat} (ha : a < n) (hA : arwB A a j = true) : (a : Int) ∈ P := by
  unfold cnt at h
  have h0 := List.eq_nil_of_length_eq_zero h
  by_cases hm : (a : Int) ∈ P
  · exact hm
  · have : a ∈ (List.range n).filter fun a : Nat => !P.contains (a : Int) && arwB A a j := by
      rw [List.mem_filter]; exact ⟨by simpa using ha, by simp [hm, hA]⟩
    rw [h0] at this; cases this

theorem cnt_pos {A : List (Int × Int)} {n : Nat} {P : List Int} {j : Nat} (h : cnt A n P j ≠ 0) : ∃ a, a < n ∧ (a : Int) ∉ P ∧ arwB A a j = true := by
  unfold cnt at h
  obtain ⟨a, ha⟩ := List.exists_mem_of_length_pos (Nat.pos_of_ne_zero h)
  rw [List.mem_filter] at ha
  refine ⟨a, by simpa using ha.1, ?_, ?_⟩
  · have := ha.2; simp at this; exact this.1
  · have := ha.2; simp at this; exact this.2

theorem cnt_snoc_aux (A : List (Int × Int)) (P : List Int) (e j : Nat) (he : (e : Int) ∉ P) (n : Nat) :
    ((List.range n).filter fun a : Nat => !P.contains (a : Int) && arwB A a j).length = ((List.range n).filter fun a : Nat => !(P ++ [(e : Int)]).contains (a : Int) && arwB A a j).length + (if e < n ∧ arwB A e j = true then 1 else 0) := by
  induction n with
  | zero => simp
  | succ n ih =>
    rw [List.range_succ, List.filter_append, List.filter_append, List.length_append, List.length_append, ih]
    by_cases e1 : e = n
    · subst e1
      have hnot : ¬ (e < e ∧ arwB A e j = true) := by omega
      rw [if_neg hnot]
      cases hA : arwB A e j
      · simp [hA]
      · simp [hA, he]
    · have h1 : (if e < n + 1 ∧ arwB A e j = true then 1 else 0) = (if e < n ∧ arwB A e j = true then 1 else 0) := by
        by_cases h2 : e < n
        · simp [h2, Nat.lt_succ_of_lt h2]
        · have : ¬ e < n + 1 := by omega
          simp [h2, this]
      rw [h1]
      have h3 : ((n : Int) = (e : Int)) = False := by simp; omega
      have h4 : (P ++ [(e : Int)]).contains (n : Int) = P.contains (n : Int) := by
        rw [Bool.eq_iff_iff]; simp; intro h; omega
      have h5 : (List.filter (fun a : Nat => !(P ++ [(e : Int)]).contains (a : Int) && arwB A a j) [n]).length = (List.filter (fun a : Nat => !P.contains (a : Int) && arwB A a j) [n]).length := by
        simp only [List.filter_cons, List.filter_nil, h4]
      rw [h5]; omega

theorem cnt_snoc_yes {A : List (Int × Int)} {n : Nat} {P : List Int} {e j : Nat} (he : (e : Int) ∉ P) (hn : e < n) (h : arwB A e j = true) : cnt A n P j = cnt A n (P ++ [(e : Int)]) j + 1 := by
  have := cnt_snoc_aux A P e j he n
  rw [if_pos ⟨hn, h⟩] at this; exact this
theorem cnt_snoc_no {A : List (Int × Int)} {n : Nat} {P : List Int} {e j : Nat} (he : (e : Int) ∉ P) (h : arwB A e j = false) : cnt A n P j = cnt A n (P ++ [(e : Int)]) j := by
  have := cnt_snoc_aux A P e j he n
  rw [if_neg (by rw [h]; simp)] at this; exact this

/-- In the midst of the counting: d events have gone, and of the next one the arrows to those below t. -/
structure Kahn (n : Nat) (A : List (Int × Int)) (F : List Int) (d t : Nat) : Prop where
  nat : ∀ x ∈ F, ∃ a : Nat, a < n ∧ x = (a : Int)
  nodup : F.Nodup
  free : ∀ j, j < n → ((j : Int) ∈ F ↔ cnt A n (F.take (if j < t then d + 1 else d)) j = 0)
  safe : ∀ S, Core n A S → ∀ b, b < n → S b → (b : Int) ∉ F

theorem Kahn.len {n : Nat} {A : List (Int × Int)} {F : List Int} {d t : Nat} (h : Kahn n A F d t) : F.length ≤ n := by
  have h1 : ∀ x ∈ F, x ∈ (List.range n).map (fun a : Nat => (a : Int)) := fun x hx => by
    obtain ⟨a, ha, rfl⟩ := h.nat x hx
    exact List.mem_map.2 ⟨a, by simpa using ha, rfl⟩
  have := nodup_le h.nodup h1
  simpa using this

/-- The first ones: those into which no arrow leads, below m. -/
def noneIn (A : List (Int × Int)) (n m : Nat) : List Int := ((List.range m).filter fun j => inTo A n j == 0).map fun j : Nat => (j : Int)

theorem noneIn_yes {A : List (Int × Int)} {n m : Nat} (h : inTo A n m = 0) : noneIn A n (m + 1) = noneIn A n m ++ [(m : Int)] := by
  unfold noneIn; rw [List.range_succ, List.filter_append, List.map_append]; simp [h]
theorem noneIn_no {A : List (Int × Int)} {n m : Nat} (h : inTo A n m ≠ 0) : noneIn A n (m + 1) = noneIn A n m := by
  unfold noneIn; rw [List.range_succ, List.filter_append, List.map_append]; simp [h]
theorem noneIn_len (A : List (Int × Int)) (n m : Nat) : (noneIn A n m).length ≤ m := by
  unfold noneIn; rw [List.length_map]
  have := List.length_filter_le (fun j => inTo A n j == 0) (List.range m)
  simpa using this

theorem Kahn.start (n : Nat) (A : List (Int × Int)) : Kahn n A (noneIn A n n) 0 0 := by
  have key : ∀ j : Nat, ((j : Int) ∈ noneIn A n n ↔ j < n ∧ inTo A n j = 0) := by
    intro j
    unfold noneIn
    rw [List.mem_map]
    constructor
    · rintro ⟨a, ha, e⟩
      have : a = j := by omega
      subst this
      rw [List.mem_filter] at ha
      exact ⟨by simpa using ha.1, by simpa using ha.2⟩
    · rintro ⟨h1, h2⟩
      exact ⟨j, by rw [List.mem_filter]; exact ⟨by simpa using h1, by simpa using h2⟩, rfl⟩
  refine ⟨fun x hx => ?_, ?_, fun j hj => ?_, fun S hS b hb hSb hF => ?_⟩
  · unfold noneIn at hx
    obtain ⟨a, ha, rfl⟩ := List.mem_map.1 hx
    rw [List.mem_filter] at ha
    exact ⟨a, by simpa using ha.1, rfl⟩
  · unfold noneIn
    refine nodup_cast (List.Pairwise.filter _ List.nodup_range)
  · rw [key, if_neg (by omega), List.take_zero, cnt_nil]
    exact ⟨fun h => h.2, fun h => ⟨hj, h⟩⟩
  · obtain ⟨a, ha, hSa, hm⟩ := hS b hb hSb
    have h0 := ((key b).1 hF).2
    rw [← cnt_nil] at h0
    have := cnt_zero h0 ha (arwB_iff.2 hm)
    cases this

theorem take_succ_get {F : List Int} {d : Nat} {x : Int} (h : F[d]? = some x) : F.take (d + 1) = F.take d ++ [x] := by
  rw [List.take_add_one, h]; rfl

theorem Kahn.notIn {n : Nat} {A : List (Int × Int)} {F : List Int} {d t : Nat} (h : Kahn n A F d t) {x : Int} (hx : F[d]? = some x) : x ∉ F.take d := by
  intro hm
  obtain ⟨i, hi⟩ := List.mem_iff_getElem?.1 hm
  have hid : i < d := by
    have := (List.getElem?_eq_some_iff.1 hi).1
    rw [List.length_take] at this; omega
  rw [List.getElem?_take_of_lt hid] at hi
  obtain ⟨p1, q1⟩ := List.getElem?_eq_some_iff.1 hi
  obtain ⟨p2, q2⟩ := List.getElem?_eq_some_iff.1 hx
  exact (List.pairwise_iff_getElem.1 h.nodup i d p1 p2 hid) (q1.trans q2.symm)

/-- No arrow to t. -/
theorem Kahn.no {n : Nat} {A : List (Int × Int)} {F : List Int} {d t e : Nat} (h : Kahn n A F d t) (hx : F[d]? = some (e : Int)) (hA : arwB A e t = false) :
    Kahn n A F d (t + 1) ∧ cnt A n (F.take (d + 1)) t = cnt A n (F.take d) t := by
  have hc : cnt A n (F.take (d + 1)) t = cnt A n (F.take d) t := by
    rw [take_succ_get hx]; exact (cnt_snoc_no (h.notIn hx) hA).symm
  refine ⟨⟨h.nat, h.nodup, fun j hj => ?_, h.safe⟩, hc⟩
  rw [h.free j hj]
  by_cases e1 : j = t
  · subst e1; rw [if_neg (by omega), if_pos (by omega), hc]
  · by_cases e2 : j < t
    · rw [if_pos e2, if_pos (by omega)]
    · rw [if_neg e2, if_neg (by omega)]

/-- An arrow to t, and others are left. -/
theorem Kahn.more {n : Nat} {A : List (Int × Int)} {F : List Int} {d t e : Nat} (h : Kahn n A F d t) (hx : F[d]? = some (e : Int)) (ht : t < n) (hA : arwB A e t = true) :
    cnt A n (F.take d) t = cnt A n (F.take (d + 1)) t + 1 ∧ (cnt A n (F.take (d + 1)) t ≠ 0 → Kahn n A F d (t + 1)) ∧
    (cnt A n (F.take (d + 1)) t = 0 → Kahn n A (F ++ [(t : Int)]) d (t + 1)) := by
  obtain ⟨e', he, hee⟩ := h.nat _ (List.mem_of_getElem? hx)
  have : e' = e := by omega
  subst this
  have hc : cnt A n (F.take d) t = cnt A n (F.take (d + 1)) t + 1 := by
    rw [take_succ_get hx]; exact cnt_snoc_yes (h.notIn hx) he hA
  have hnt : (t : Int) ∉ F := by
    intro hm
    have := (h.free t ht).1 hm
    rw [if_neg (by omega)] at this
    omega
  refine ⟨hc, fun hne => ⟨h.nat, h.nodup, fun j hj => ?_, h.safe⟩, fun h0 => ⟨fun x hx => ?_, ?_, fun j hj => ?_, fun S hS b hb hSb hF => ?_⟩⟩
  · by_cases e1 : j = t
    · subst e1
      rw [if_pos (by omega)]
      exact ⟨fun h => absurd h hnt, fun h => absurd h hne⟩
    · rw [h.free j hj]
      by_cases e2 : j < t
      · rw [if_pos e2, if_pos (by omega)]
      · rw [if_neg e2, if_neg (by omega)]
  · rcases List.mem_append.1 hx with hx | hx
    · exact h.nat x hx
    · simp at hx; exact ⟨t, ht, hx⟩
  · rw [List.nodup_append]
    refine ⟨h.nodup, by simp, fun a ha b hb => ?_⟩
    simp at hb; subst hb
    intro e; subst e; exact hnt ha
  · have hd : d < F.length := (List.getElem?_eq_some_iff.1 hx).1
    have ht1 : (F ++ [(t : Int)]).take (d + 1) = F.take (d + 1) := by rw [List.take_append_of_le_length (by omega)]
    have ht2 : (F ++ [(t : Int)]).take d = F.take d := by rw [List.take_append_of_le_length (by omega)]
    by_cases e1 : j = t
    · subst e1
      rw [if_pos (by omega), ht1]
      exact ⟨fun _ => h0, fun _ => by simp⟩
    · have : ((j : Int) ∈ F ++ [(t : Int)] ↔ (j : Int) ∈ F) := by
        simp; intro h; omega
      rw [this, h.free j hj]
      by_cases e2 : j < t
      · rw [if_pos e2, if_pos (by omega), ht1]
      · rw [if_neg e2, if_neg (by omega), ht2]
  · rcases List.mem_append.1 hF with hF | hF
    · exact h.safe S hS b hb hSb hF
    · have : b = t := by simp at hF; omega
      subst this
      obtain ⟨a, ha, hSa, hm⟩ := hS b hb hSb
      have hin := cnt_zero h0 ha (arwB_iff.2 hm)
      exact h.safe S hS a ha hSa (List.mem_of_mem_take hin)

/-- All arrows of the event are gone. -/
theorem Kahn.next {n : Nat} {A : List (Int × Int)} {F : List Int} {d : Nat} (h : Kahn n A F d n) : Kahn n A F (d + 1) 0 := by
  refine ⟨h.nat, h.nodup, fun j hj => ?_, h.safe⟩
  rw [h.free j hj, if_pos hj, if_neg (by omega)]

theorem Kahn.last {n : Nat} {A : List (Int × Int)} {F : List Int} {d : Nat} (h : Kahn n A F d 0) (hd : F.length ≤ d) : decide ((F.length : Int) < (n : Int)) = true ↔ Cyc n A := by
  rw [decide_eq_true_eq]
  have hfree : ∀ j, j < n → ((j : Int) ∈ F ↔ cnt A n F j = 0) := fun j hj => by
    have := h.free j hj
    rw [if_neg (by omega), List.take_of_length_le hd] at this
    exact this
  constructor
  · intro hlt
    have hex : ∃ j, j < n ∧ (j : Int) ∉ F := by
      refine Classical.byContradiction fun hno => ?_
      have hall : ∀ j, j < n → (j : Int) ∈ F := fun j hj => Classical.byContradiction fun h2 => hno ⟨j, hj, h2⟩
      have h1 : ∀ x ∈ (List.range n).map (fun a : Nat => (a : Int)), x ∈ F := fun x hx => by
        obtain ⟨a, ha, rfl⟩ := List.mem_map.1 hx
        exact hall a (by simpa using ha)
      have hnd : ((List.range n).map (fun a : Nat => (a : Int))).Nodup := nodup_cast List.nodup_range
      have := nodup_le hnd h1
      simp at this
      omega
    obtain ⟨j, hj, hjF⟩ := hex
    refine ⟨fun b => (b : Int) ∉ F, ⟨j, hj, hjF⟩, fun b hb hbF => ?_⟩
    obtain ⟨a, ha, haF, hm⟩ := cnt_pos (fun h0 => hbF ((hfree b hb).2 h0))
    exact ⟨a, ha, haF, arwB_iff.1 hm⟩
  · rintro ⟨S, ⟨b, hb, hSb⟩, hS⟩
    have hle := h.len
    have hne : F.length ≠ n := by
      intro e
      have hbF := h.safe S hS b hb hSb
      have hsub : ∀ x ∈ (b : Int) :: F, x ∈ (List.range n).map (fun a : Nat => (a : Int)) := fun x hx => by
        rcases List.mem_cons.1 hx with rfl | hx
        · exact List.mem_map.2 ⟨b, by simpa using hb, rfl⟩
        · obtain ⟨a, ha, rfl⟩ := h.nat x hx
          exact List.mem_map.2 ⟨a, by simpa using ha, rfl⟩
      have := nodup_le (List.nodup_cons.2 ⟨hbF, h.nodup⟩) hsub
      simp at this
      omega
    omega

end Go.Proofs.YtomijmikkbhgmaaGreat

namespace Go.Proofs.YtomijmikkbhgmaaGreat
open Go.RowKit

/-- A row of arrows: whether one leads from a to b stands at a * n + b. -/
def MatAt (w : World) (bl n : Nat) (A : List (Int × Int)) : Prop := w.rowIs bl 4 (n * n) (fun q => .bool (arwB A (q / n) (q % n)))

theorem MatAt.cell {w : World} {bl n : Nat} {A : List (Int × Int)} (h : MatAt w bl n A) {a b : Nat} (ha : a < n) (hb : b < n) : w.cell? ⟨bl, a * n + b, none⟩ = some (.bool (arwB A a b)) := by
  have hq : a * n + b < n * n := by
    have : (a + 1) * n ≤ n * n := Nat.mul_le_mul_right n ha
    rw [Nat.add_mul] at this; omega
  have h1 := World.rowIs.cell h hq
  have e1 : (a * n + b) / n = a := by rw [Nat.mul_comm, Nat.mul_add_div (by omega), Nat.div_eq_of_lt hb]; omega
  have e2 : (a * n + b) % n = b := by rw [Nat.mul_comm, Nat.mul_add_mod, Nat.mod_eq_of_lt hb]
  rw [e1, e2] at h1
  exact h1

theorem MatAt.congr {w : World} {bl n : Nat} {A B : List (Int × Int)} (h : MatAt w bl n A) (e : ∀ a b, a < n → b < n → arwB A a b = arwB B a b) : MatAt w bl n B := by
  refine World.rowIs.congr h fun q hq => ?_
  have hn : 0 < n := Nat.pos_of_ne_zero fun h0 => by subst h0; simp at hq
  rw [e _ _ ((Nat.div_lt_iff_lt_mul hn).2 hq) (Nat.mod_lt _ hn)]

theorem MatAt.set {w : World} {bl n : Nat} {A : List (Int × Int)} (h : MatAt w bl n A) {a b : Nat} (_ha : a < n) (hb : b < n) : MatAt (w.setCell ⟨bl, a * n + b, none⟩ (.bool true)) bl n (A ++ [((a : Int), (b : Int))]) := by
  refine (World.rowIs.set h (a * n + b) (.bool true)).congr fun q hq => ?_
  have hn : 0 < n := by omega
  have hmod := Nat.mod_lt q hn
  rw [arwB_snoc]
  by_cases e : q = a * n + b
  · rw [if_pos e]
    have e1 : (a * n + b) / n = a := by rw [Nat.mul_comm, Nat.mul_add_div (by omega), Nat.div_eq_of_lt hb]; omega
    have e2 : (a * n + b) % n = b := by rw [Nat.mul_comm, Nat.mul_add_mod, Nat.mod_eq_of_lt hb]
    rw [e, e1, e2]; simp
  · rw [if_neg e]
    have h2 : ¬ (q / n = a ∧ q % n = b) := fun ⟨h1, h2⟩ => e (by
      have := Nat.div_add_mod q n
      rw [h1, h2, Nat.mul_comm] at this; exact this.symm)
    have h3 : decide (((q / n : Nat) : Int) = ((a : Int), (b : Int)).1 ∧ ((q % n : Nat) : Int) = ((a : Int), (b : Int)).2) = false := by
      rw [decide_eq_false_iff_not]
      rintro ⟨h4, h5⟩
      exact h2 ⟨by simp only at h4; omega, by simp only at h5; omega⟩
    rw [h3, Bool.false_or]

theorem MatAt.out {w : World} {bl n : Nat} {A : List (Int × Int)} (h : MatAt w bl n A) {x y : Int} (ho : ¬ (0 ≤ x ∧ x < n ∧ 0 ≤ y ∧ y < n)) : MatAt w bl n (A ++ [(x, y)]) := by
  refine h.congr fun a b ha hb => ?_
  rw [arwB_snoc]
  have : decide ((a : Int) = (x, y).1 ∧ (b : Int) = (x, y).2) = false := by
    rw [decide_eq_false_iff_not]
    rintro ⟨rfl, rfl⟩
    exact ho ⟨by omega, by simpa using ha, by omega, by simpa using hb⟩
  rw [this, Bool.false_or]

theorem MatAt.block {w w' : World} {bl n : Nat} {A : List (Int × Int)} (h : MatAt w bl n A) (e : w'.heap[bl]? = w.heap[bl]?) : MatAt w' bl n A := World.rowIs.of_block h e
theorem MatAt.lt {w : World} {bl n : Nat} {A : List (Int × Int)} (h : MatAt w bl n A) : bl < w.heap.size := World.rowIs.lt h
theorem MatAt.keep {w w' : World} {bl n : Nat} {A : List (Int × Int)} (h : MatAt w bl n A) (hb : Below w.heap.size w w') : MatAt w' bl n A := h.block (hb.block _ h.lt)

/-- A set of arrows in memory: its two numbers at block p, its row in block bl. -/
structure SetAt (w : World) (p bl n : Nat) (A : List (Int × Int)) : Prop where
  c0 : w.cell? ⟨p, 0, none⟩ = some (.int .i64 n)
  c1 : w.cell? ⟨p, 1, none⟩ = some (.slice (some ⟨bl, 0, none⟩) (n * n) (n * n))
  mat : MatAt w bl n A
  ne : p ≠ bl
theorem SetAt.keep {w w' : World} {p bl n : Nat} {A : List (Int × Int)} (h : SetAt w p bl n A) (hb : Below w.heap.size w w') : SetAt w' p bl n A := ⟨keep_cell hb h.c0, keep_cell hb h.c1, h.mat.keep hb, h.ne⟩
theorem SetAt.lt {w : World} {p bl n : Nat} {A : List (Int × Int)} (h : SetAt w p bl n A) : p < w.heap.size := World.block_lt_of_cell? w _ h.c0

theorem SetAt.drew {w : World} {p bl n : Nat} {A : List (Int × Int)} (h : SetAt w p bl n A) : SetAt w.drew p bl n A := ⟨h.c0, h.c1, h.mat, h.ne⟩
theorem Only.drew {B : Nat} {w w' : World} (h : Only B w w') : Only B w w'.drew := ⟨h.os, h.tape, h.output, h.size, h.block⟩
theorem Only.setCell (B o : Nat) (u : Value) (w : World) : Only B w (w.setCell ⟨B, o, none⟩ u) :=
  ⟨rfl, rfl, rfl, by simp [World.setCell], fun k _ hn => Below.heap_setCell w ⟨B, o, none⟩ u k hn⟩

theorem sq_le {n : Nat} (h : n ≤ 96) : n * n ≤ 9216 := Nat.mul_le_mul h h

set_option maxHeartbeats 1000000 in
theorem new_any (n : Nat) (hn : n ≤ 96) (w : World) :
    Calls Tryz.prog 138 #[.int .i64 n] w fun e w' => e = .returned (.agg #[.int .i64 n, .slice (some ⟨w.heap.size + 1, 0, none⟩) (n * n) (n * n)]) ∧ MatAt w' (w.heap.size + 1) n [] ∧ Below w.heap.size w w' := by
  have hsq := sq_le hn
  have hz : ∀ w' : World, MatAt (w'.alloc (.cells (madeCells #[.bool false] (n * n)) 4)) w'.heap.size n [] := fun w' => World.rowIs_made w' (.bool false) (n * n) 4
  have hec : (n : Int) * (n : Int) = ((n * n : Nat) : Int) := by simp
  have hmk := run_make_row' (P := Tryz.prog) 139 4 (.bool false) 1 Tryz.underlying139 Tryz.infoBool rfl .i64 .i64 (n * n) (by omega) (by omega)
  have HZ : Hid (∀ w' : World, MatAt (w'.alloc (.cells (madeCells #[.bool false] (n * n)) 4)) w'.heap.size n []) := hz
  clear hz
  generalize n * n = N at hec hmk HZ hsq ⊢
  go_enter Tryz.func138, Tryz.ntmps138
  go_wp2_with fail
  refine bodyPost_ret (v := .agg #[.int .i64 n, .slice (some ⟨w.heap.size + 1, 0, none⟩) N N]) (by simp [results, Tryz.results138, go_sem, *]) rfl ⟨rfl, ?_, below_two _ _ _⟩
  have hz := HZ.out (w.alloc (.cells #[.int .i64 n, .slice (some ⟨w.heap.size + 1, 0, none⟩) N N] 141))
  rw [World.size_alloc] at hz
  exact hz

set_option maxRecDepth 20000 in
set_option maxHeartbeats 1000000 in
theorem add_any (n : Nat) (hn : n ≤ 96) (A : List (Int × Int)) (p bl : Nat) (x y : Int) (w : World) (h : SetAt w p bl n A) :
    Calls Tryz.prog 136 #[.pointer (some ⟨p, 0, none⟩), .int .i64 x, .int .i64 y] w fun e w' => ∃ r, e = .returned r ∧ SetAt w' p bl n (A ++ [(x, y)]) ∧ Only bl w w' := by
  obtain ⟨c0, c1, hm, hne⟩ := h
  have HM : Hid (MatAt w bl n A ∧ p ≠ bl ∧ w.cell? ⟨p, 0, none⟩ = some (.int .i64 n) ∧ w.cell? ⟨p, 1, none⟩ = some (.slice (some ⟨bl, 0, none⟩) (n * n) (n * n))) := ⟨hm, hne, c0, c1⟩
  clear hm hne
  by_cases hin : 0 ≤ x ∧ x < n ∧ 0 ≤ y ∧ y < n
  · obtain ⟨h1, h2, h3, h4⟩ := hin
    obtain ⟨a, rfl⟩ := Int.eq_ofNat_of_zero_le h1
    obtain ⟨b, rfl⟩ := Int.eq_ofNat_of_zero_le h3
    have ha : a < n := by omega
    have hb : b < n := by omega
    have hq : a * n + b < n * n := by
      have : (a + 1) * n ≤ n * n := Nat.mul_le_mul_right n ha
      rw [Nat.add_mul] at this; omega
    have hsq := sq_le hn
    have e1 : (a : Int) * (n : Int) = ((a * n : Nat) : Int) := by simp
    have hqI : ((a * n : Nat) : Int) + (b : Int) = ((a * n + b : Nat) : Int) := by omega
    have r0 := HM.out.1.cell ha hb
    have z0 := HM.out.1.frozen (a * n + b)
    have s0 := HM.out.1.lt
    have HK : Hid (SetAt (w.setCell ⟨bl, a * n + b, none⟩ (.bool true)) p bl n (A ++ [((a : Int), (b : Int))]) ∧ Only bl w (w.setCell ⟨bl, a * n + b, none⟩ (.bool true))) := by
      obtain ⟨h1, h2, h3, h4⟩ := HM.out
      have ho := Only.setCell bl (a * n + b) (.bool true) w
      exact ⟨⟨ho.cell h3 h2, ho.cell h4 h2, h1.set ha hb, h2⟩, ho⟩
    generalize a * n + b = q at hq r0 z0 HK hqI
    generalize a * n = m at e1 hqI
    generalize n * n = N at hq hsq c1
    have hqN : (q : Int) < (N : Int) := by omega
    have hm0 : (m : Int) ≤ 9216 := by omega
    have hw1 : IntKind.i64.wrap (m : Int) = (m : Int) := by rw [IntKind.wrap_i64]; omega
    have hw2 : IntKind.i64.wrap (q : Int) = (q : Int) := by rw [IntKind.wrap_i64]; omega
    go_enter Tryz.func136, Tryz.ntmps136
    go_wp2_with fail
    refine wp_region_still_tail 13 (by kernel_rfl) (by kernel_rfl) ?_
    simp only [List.take_succ_cons, List.take_zero, List.drop_succ_cons, List.drop_zero]
    repeat still_step
    refine wpStill_nil ?_
    go_wp2_with fail
    exact bodyPost_end (v := .tuple #[]) (results_none rfl _ _ _) rfl ⟨_, rfl, HK.out.1.drew, HK.out.2.drew⟩
  · have HK : Hid (SetAt w p bl n (A ++ [(x, y)])) := ⟨HM.out.2.2.1, HM.out.2.2.2, HM.out.1.out hin, HM.out.2.1⟩
    cases h1 : decide (0 ≤ x)
    · go_enter Tryz.func136, Tryz.ntmps136
      go_wp2_with fail
      exact bodyPost_end (v := .tuple #[]) (results_none rfl _ _ _) rfl ⟨_, rfl, HK.out, Only.refl _ _⟩
    · cases h2 : decide (x < (n : Int))
      · go_enter Tryz.func136, Tryz.ntmps136
        go_wp2_with fail
        exact bodyPost_end (v := .tuple #[]) (results_none rfl _ _ _) rfl ⟨_, rfl, HK.out, Only.refl _ _⟩
      · cases h3 : decide (0 ≤ y)
        · go_enter Tryz.func136, Tryz.ntmps136
          go_wp2_with fail
          exact bodyPost_end (v := .tuple #[]) (results_none rfl _ _ _) rfl ⟨_, rfl, HK.out, Only.refl _ _⟩
        · have h4 : decide (y < (n : Int)) = false := by
            rw [decide_eq_false_iff_not]
            simp only [decide_eq_true_eq] at h1 h2 h3
            exact fun h4 => hin ⟨h1, h2, h3, h4⟩
          go_enter Tryz.func136, Tryz.ntmps136
          go_wp2_with fail
          exact bodyPost_end (v := .tuple #[]) (results_none rfl _ _ _) rfl ⟨_, rfl, HK.out, Only.refl _ _⟩

end Go.Proofs.YtomijmikkbhgmaaGreat
