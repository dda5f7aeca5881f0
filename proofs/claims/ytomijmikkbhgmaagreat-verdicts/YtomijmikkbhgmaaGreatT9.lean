import Derived.Test.YtomijmikkbhgmaaGreatT8
import Derived.Test.YtomijmikkbhgmaaGreatT3
import Derived.Deep.CutRange
import Derived.Deep.RegionWith
import Derived.Test.YtomijmikkbhgmaaGreatT1
import Derived.Deep.Quiet
import Derived.Deep.QuietTactic
import Derived.BigQuiet
namespace Go.Proofs.YtomijmikkbhgmaaGreat
open Go.RowKit

/-- The slice that 'rest' hands out. -/
def dropA (ao : Option Addr) (cap k : Nat) : Option Addr := match ao with
  | some a => if cap = k then some a else some ⟨a.block, a.off + k, none⟩
  | none => none
def restW (n : Nat) (ao : Option Addr) (cap : Nat) (x : Int) : List Int → Nat → Value
  | [], _ => .slice none 0 0
  | y :: l, k => if y == x then .slice (dropA ao cap (k + 1)) (n - (k + 1)) (cap - (k + 1)) else restW n ao cap x l (k + 1)
def restV (n : Nat) (ao : Option Addr) (cap : Nat) (l : List Int) (x : Int) : Value := if x == -1 then .slice ao n cap else restW n ao cap x l 0

theorem restW_cap {w : World} {l : List Int} {ao : Option Addr} {cap : Nat} (h : IntCap w (.slice ao l.length cap) l) (hc : l.length ≤ cap) (x : Int) (k : Nat) (hk : k ≤ l.length) : IntCap w (restW l.length ao cap x (l.drop k) k) (restG (l.drop k) x) := by
  generalize hm : l.length - k = m
  induction m generalizing k with
  | zero => rw [drop_nil (by omega)]; exact intCap_nil _
  | succ m ih =>
    have hlt : k < l.length := by omega
    obtain ⟨y, hy⟩ := get_of_lt hlt
    rw [drop_cons hy]
    unfold restW restG
    split
    · obtain ⟨ao', b, off, cap', hs, _⟩ := h
      have hv := hs.hv
      simp only [Value.slice.injEq] at hv
      obtain ⟨rfl, _, rfl⟩ := hv
      have ha := hs.ha (ne_nil hlt)
      subst ha
      exact intCap_drop hs hc (by omega)
    · exact ih (k + 1) (by omega) (by omega)

theorem restV_cap {w : World} {l : List Int} {ao : Option Addr} {cap : Nat} (h : IntCap w (.slice ao l.length cap) l) (hc : l.length ≤ cap) (x : Int) : IntCap w (restV l.length ao cap l x) (restL l x) := by
  unfold restV restL
  split
  · exact h
  · exact restW_cap h hc x 0 (Nat.zero_le _)

theorem restW_hit {n cap k b off : Nat} {x : Int} (l : List Int) : restW n (some ⟨b, off, none⟩) cap x (x :: l) k = .slice (if cap = k + 1 then (some ⟨b, off, none⟩ : Option Addr) else some ⟨b, off + (k + 1), none⟩) (n - (k + 1)) (cap - (k + 1)) := by
  rw [restW, if_pos (by simp)]; rfl
theorem restW_mis {n cap k : Nat} {ao : Option Addr} {x y : Int} (h : (y == x) = false) (l : List Int) : restW n ao cap x (y :: l) k = restW n ao cap x l (k + 1) := by rw [restW, if_neg (by simp [h])]

set_option maxHeartbeats 1000000 in
theorem rest_at (l : List Int) (hl : l.length ≤ 100000) (x : Int) (ao : Option Addr) (cap : Nat) (_hcap : l.length ≤ cap) (w : World) (h : IntAt w (.slice ao l.length cap) l) :
    Calls Tryz.prog 146 #[.slice ao l.length cap, .int .i64 x] w fun e w' => e = .returned (restV l.length ao cap l x) ∧ w' = w := by
  obtain ⟨ao', b, off, cap', hs⟩ := h
  have hv := hs.hv
  simp only [Value.slice.injEq] at hv
  obtain ⟨rfl, _, rfl⟩ := hv
  have ha := hs.ha
  have HC : Hid (∀ k x, l[k]? = some x → IntC w b (off + k * 1) x) := hs.hc
  clear hs
  cases hx : x == -1
  · have HR : Hid (restV l.length ao cap l x = restW l.length ao cap x (l.drop 0) 0) := by show restV _ _ _ _ _ = _; unfold restV; rw [hx]; rfl
    generalize restV l.length ao cap l x = R at HR ⊢
    go_enter Tryz.func146, Tryz.ntmps146
    go_wp2_with fail
    go_loop [5] (fun i => ∃ k : Nat, k ≤ l.length ∧ i = .int .i64 k ∧ Hid (R = restW l.length ao cap x (l.drop k) k)) (fun i => l.length - (intOf i).toNat)
    case atStart => exact ⟨0, Nat.zero_le _, rfl, HR.out⟩
    case round =>
      clear HR
      obtain ⟨k, hk, rfl, hn⟩ := hrel
      by_cases hlt : k < l.length
      · obtain ⟨y, hy⟩ := get_of_lt hlt
        have hao := ha (ne_nil hlt)
        subst hao
        have HN : Hid (R = restW l.length (some ⟨b, off, none⟩) cap x (y :: l.drop (k + 1)) k) := by rw [← drop_cons hy]; exact hn
        have c0 := HC.out k y hy
        unfold IntC at c0
        rw [Nat.mul_one] at c0
        have hkI : (k : Int) < (l.length : Int) := by omega
        clear hn hy
        cases hxy : y == x
        · have HM : Hid (R = restW l.length (some ⟨b, off, none⟩) cap x (l.drop (k + 1)) (k + 1)) := HN.out.trans (restW_mis hxy _)
          clear HN
          go_wp2_with fail
          go_round
          case measure => simp [intOf]; omega
          case rel => exact ⟨k + 1, by omega, by go_num, HM.out⟩
        · have exy : y = x := by simpa using hxy
          subst exy
          obtain ⟨aoX, hX⟩ : ∃ aoX, (if cap = k + 1 then (some ⟨b, off, none⟩ : Option Addr) else some ⟨b, off + (k + 1), none⟩) = aoX := ⟨_, rfl⟩
          have HM : Hid (R = .slice aoX (l.length - (k + 1)) (cap - (k + 1))) := HN.out.trans (by rw [restW_hit, hX])
          clear HN
          go_wp2_with fail
          go_ret
          exact ⟨by rw [HM.out]; rfl, rfl⟩
      · have HM : Hid (R = .slice none 0 0) := hn.out.trans (by rw [drop_nil hlt]; rfl)
        clear hn
        go_wp2_with fail
        go_ret
        exact ⟨by rw [HM.out]; rfl, rfl⟩
  · have HR : Hid (restV l.length ao cap l x = .slice ao l.length cap) := by show restV _ _ _ _ _ = _; unfold restV; rw [hx]; rfl
    have hx1 : x = -1 := by simpa using hx
    subst hx1
    go_enter Tryz.func146, Tryz.ntmps146
    go_wp2_with fail
    go_ret
    exact ⟨by rw [HR.out]; rfl, rfl⟩

theorem Tryz.infoArw : (Tryz.prog.info? 178).map (fun i => (i.zero, i.size, i.bytes)) = some (some (.agg #[.int .i64 0, .int .i64 0]), 2, 16) := by kernel_rfl

def arwV (p : Int × Int) : List Value := [.int .i64 p.1, .int .i64 p.2]

def ArwOwn (base : Nat) (w : World) (u : Value) (A : List (Int × Int)) : Prop := w.ownsRow base 178 2 u A.length (A.flatMap arwV)

theorem ArwOwn.at' {base : Nat} {w : World} {u : Value} {A : List (Int × Int)} (h : ArwOwn base w u A) : ArwAt w u A := by
  obtain ⟨ao, b, off, cap, h, _⟩ := owns_read (C := ArwC) arwV 2 (fun _ => rfl) (fun b off x hx => ⟨hx 0 _ rfl, hx 1 _ rfl⟩) h
  exact ⟨ao, b, off, cap, h⟩

theorem arw_snoc {base : Nat} {w : World} {u : Value} {A : List (Int × Int)} {p : Int × Int} (h : w.ownsRow base 178 2 u (A.length + 1) (A.flatMap arwV ++ arwV p)) : ArwOwn base w u (A ++ [p]) := by
  unfold ArwOwn
  rw [List.length_append, List.flatMap_append, List.flatMap_cons, List.flatMap_nil, List.append_nil]
  exact h

set_option maxHeartbeats 1000000 in
theorem fan_any (A : List (Int × Int)) (hA : A.length ≤ 1000000) (L : List Int) (hL : L.length ≤ 100000) (f : Int) (base : Nat) (u v : Value) (w0 w : World) (hw : Below w0.heap.size w0 w) (h0 : w0.heap.size ≤ base) (hbw : base ≤ w.heap.size) (hown : ArwOwn base w u A) (hto : IntAt w0 v L) :
    Calls Tryz.prog 164 #[u, .int .i64 f, v] w fun e w' => ∃ u', e = .returned u' ∧ ArwOwn base w' u' (A ++ fanL f L) ∧ Below base w w' := by
  obtain ⟨ao, b, off, cap, hv, ha, _, hc⟩ := hto
  subst hv
  have HC : Hid (∀ k x, L[k]? = some x → IntC w0 b (off + k * 1) x) := hc
  have HW : Hid (Below w0.heap.size w0 w) := hw
  obtain ⟨i0, hi, hz0, hz1, hz2⟩ := info_parts Tryz.infoArw
  have HI : Hid (Tryz.prog.info? 178 = some i0 ∧ i0.zero = some (.agg #[.int .i64 0, .int .i64 0]) ∧ i0.size = 2 ∧ i0.bytes = 16) := ⟨hi, hz0, hz1, hz2⟩
  have HF : Hid (A ++ fanL f L = A ++ fanL f (L.drop 0)) := rfl
  generalize A ++ fanL f L = R at HF ⊢
  have HO : Hid (ArwOwn base w u A) := hown
  clear hi hz0 hz1 hz2 hc hown hw
  go_enter Tryz.func164, Tryz.ntmps164
  go_wp2_with fail
  go_loopw [0, 7] (fun u i wr => ∃ (k : Nat) (B : List (Int × Int)), k ≤ L.length ∧ i = .int .i64 k ∧ B.length ≤ 1000000 + k ∧ Hid (R = B ++ fanL f (L.drop k)) ∧ Hid (ArwOwn base wr u B) ∧ Below base w wr) (fun _ i _ => L.length - (intOf i).toNat)
  case atStart => exact ⟨0, A, Nat.zero_le _, rfl, by omega, HF.out, HO.out, Below.refl _ _⟩
  case round =>
    clear HF HO
    obtain ⟨k, B, hk, rfl, hB, hn, hown, hb⟩ := hrel
    have hsz := hb.size
    by_cases hlt : k < L.length
    · obtain ⟨x, hx⟩ := get_of_lt hlt
      obtain rfl := ha (ne_nil hlt)
      have c0 := intC_keeps _ _ _ _ _ (HW.out.trans (hb.mono h0)) (HC.out k x hx)
      unfold IntC at c0
      rw [Nat.mul_one] at c0
      have m0 := World.block_lt_of_cell? _ _ c0
      have HM : Hid (R = (B ++ [(f, x)]) ++ fanL f (L.drop (k + 1))) := hn.out.trans (by rw [drop_cons hx]; simp [fanL])
      have HO : Hid (wr.ownsRow base 178 2 u0 B.length (B.flatMap arwV)) := hown.out
      have hkI : (k : Int) < (L.length : Int) := by omega
      clear hn hx hown
      go_wp2_with (at_builtin; refine append_new _ rfl (.tmp 14) (.tmp 21) 151 rfl base 178 i0 (.agg #[.int .i64 0, .int .i64 0]) 2 16 Tryz.underlying151 HI.out.1 HI.out.2.1 HI.out.2.2.1 HI.out.2.2.2 rfl (by decide) u0 B.length (B.flatMap arwV) rfl (HO.out.alloc _) (some ⟨wr.heap.size, 0, none⟩) 1 1 (arwV (f, x)) rfl (fun h => by cases h) rfl (fun ad had => by cases had; exact new_many rfl) (by simp [arwV, Value.oneCell']) (by unfold maxLen; omega) (by omega) (by simp; omega) ?_)
      intro u' w1 hown' hgrow _
      have hb' : Below base w w1 := Below.grown (hb.alloc (by omega) _) hgrow (by simp; omega) (fun kk e => (HO.out.lt kk e).1)
      have HO2 : Hid (ArwOwn base w1 u' (B ++ [(f, x)])) := arw_snoc hown'
      clear hgrow hown' HO hb
      go_wp2_with fail
      go_roundw
      case measure => simp [intOf]; omega
      case rel => exact ⟨k + 1, B ++ [(f, x)], by omega, by go_num, by simp; omega, HM.out, HO2.out, hb'⟩
    · have HM : Hid (R = B) := hn.out.trans (by rw [drop_nil hlt]; simp [fanL])
      have HO := hown
      clear hn hown
      go_wp2_with fail
      go_ret
      exact ⟨_, rfl, by rw [HM.out]; exact HO.out, hb⟩

end Go.Proofs.YtomijmikkbhgmaaGreat

namespace Go.Proofs.YtomijmikkbhgmaaGreat
open Go.RowKit

def memB (k : Int) : Bool := k == 0 || k == 1

theorem memory_any (n : Int) (w : World) :
    Calls Tryz.prog 145 #[.int .i64 n] w fun e w' => e = .returned (.bool (memB n)) ∧ w' = w := by
  unfold memB
  go_enter Tryz.func145, Tryz.ntmps145
  go_wp2
  all_goals go_ret
  all_goals exact ⟨ret_bool (by first | (simp [*]; done) | (simp; omega)), rfl⟩

def evV (y : Evt) : Value := .agg #[.int .i64 y.thread, .int .i64 y.place, .int .i64 y.kind, .int .i64 y.loc, .int .i64 y.ins.op, .int .i64 y.ins.loc, .int .i64 y.ins.reg, .int .i64 y.ins.val, .int .i64 y.ins.mode]

def markB (a b : Evt) : Bool := (a.kind == 2 || a.kind == 4 || a.kind == 5) || ((b.kind == 3 || b.kind == 4 || b.kind == 5) || ((a.kind == 0 && a.ins.mode == 1) || (b.kind == 1 && b.ins.mode == 2)))

set_option maxHeartbeats 1000000 in
theorem marked_any (a b : Evt) (w : World) :
    Calls Tryz.prog 166 #[evV a, evV b] w fun e w' => e = .returned (.bool (markB a b)) ∧ Below w.heap.size w w' := by
  unfold markB evV
  go_enter Tryz.func166, Tryz.ntmps166
  go_wp2
  all_goals go_ret
  all_goals exact ⟨ret_bool (by first | (simp [*]; done) | (simp_all; done) | (simp_all; omega)), below_two _ _ _⟩

/-- The last Read of a thread into a register, or what is told. -/
def srcG (y : Evt) : List Evt → Nat → Int → Int
  | [], _, at' => at'
  | z :: l, i, at' => srcG y l (i + 1) (if z.kind == 0 && z.thread == y.thread && z.ins.reg == y.ins.reg then (i : Int) else at')

set_option maxRecDepth 20000 in
set_option maxHeartbeats 1000000 in
theorem source_any (E : List Evt) (hE : E.length ≤ 96) (b' : Nat) (y : Evt) (hy : E[b']? = some y) (v : Value) (w : World) (h : Ev9At w v E) :
    Calls Tryz.prog 122 #[v, .int .i64 b'] w fun e w' => e = .returned (.int .i64 (srcG y (E.take b') 0 (-1))) ∧ Below w.heap.size w w' := by
  obtain ⟨ao, b, off, cap, hv, ha, _, hc⟩ := h
  subst hv
  have hbl : b' < E.length := (List.getElem?_eq_some_iff.1 hy).1
  obtain rfl := ha (ne_nil hbl)
  have HC : Hid (∀ k y, E[k]? = some y → Ev9C w b (off + k * 9) y) := hc
  have HY : Hid (Ev9C w b (off + b' * 9) y) := hc b' y hy
  have HS : Hid (srcG y (E.take b') 0 (-1) = srcG y ((E.take b').drop 0) 0 (-1)) := rfl
  generalize srcG y (E.take b') 0 (-1) = S at HS ⊢
  clear hc hy ha
  go_enter Tryz.func122, Tryz.ntmps122
  go_wp2_with fail
  go_loopw [5, 6] (fun at' i wr => ∃ (k : Nat) (a : Int), k ≤ b' ∧ i = .int .i64 k ∧ at' = .int .i64 a ∧ Hid (S = srcG y ((E.take b').drop k) k a) ∧ Below w.heap.size w wr) (fun _ i _ => b' - (intOf i).toNat)
  case atStart => exact ⟨0, -1, Nat.zero_le _, rfl, rfl, HS.out, Below.refl _ _⟩
  case round =>
    clear HS
    obtain ⟨k, a, hk, rfl, rfl, hn, hb⟩ := hrel
    by_cases hlt : k < b'
    · obtain ⟨z, hz⟩ := get_of_lt (l := E) (k := k) (by omega)
      have hz2 : (E.take b')[k]? = some z := by rw [List.getElem?_take_of_lt hlt]; exact hz
      obtain ⟨c0, _, c2, _, _, _, c6, _, _⟩ := ev9C_keeps _ _ _ _ _ hb (HC.out k z hz)
      obtain ⟨d0, _, _, _, _, _, d6, _, _⟩ := ev9C_keeps _ _ _ _ _ hb HY.out
      have hkI : (k : Int) < (b' : Int) := by omega
      have hkE : (k : Int) < (E.length : Int) := by omega
      have hbE : (b' : Int) < (E.length : Int) := by omega
      have HN : Hid (S = srcG y ((E.take b').drop (k + 1)) (k + 1) (if z.kind == 0 && z.thread == y.thread && z.ins.reg == y.ins.reg then (k : Int) else a)) := hn.out.trans (by rw [drop_cons hz2]; rfl)
      clear hn hz hz2
      cases h0 : z.kind == 0
      · have HM : Hid (S = srcG y ((E.take b').drop (k + 1)) (k + 1) a) := HN.out.trans (by rw [h0]; rfl)
        go_wp2_with fail
        go_quiet (fail)
        go_wp2_with fail
        go_roundw
        case measure => simp [intOf]; omega
        case rel => exact ⟨k + 1, a, by omega, by go_num, rfl, HM.out, below_drewN hb _⟩
      · cases h1 : z.thread == y.thread
        · have HM : Hid (S = srcG y ((E.take b').drop (k + 1)) (k + 1) a) := HN.out.trans (by rw [h0, h1]; rfl)
          go_wp2_with fail
          go_quiet (fail)
          go_wp2_with fail
          go_roundw
          case measure => simp [intOf]; omega
          case rel => exact ⟨k + 1, a, by omega, by go_num, rfl, HM.out, below_drewN hb _⟩
        · cases h2 : z.ins.reg == y.ins.reg
          · have HM : Hid (S = srcG y ((E.take b').drop (k + 1)) (k + 1) a) := HN.out.trans (by rw [h0, h1, h2]; rfl)
            go_wp2_with fail
            go_quiet (fail)
            go_wp2_with fail
            go_roundw
            case measure => simp [intOf]; omega
            case rel => exact ⟨k + 1, a, by omega, by go_num, rfl, HM.out, below_drewN hb _⟩
          · have HM : Hid (S = srcG y ((E.take b').drop (k + 1)) (k + 1) (k : Int)) := HN.out.trans (by rw [h0, h1, h2]; rfl)
            go_wp2_with fail
            go_quiet (fail)
            go_wp2_with fail
            go_roundw
            case measure => simp [intOf]; omega
            case rel => exact ⟨k + 1, (k : Int), by omega, by go_num, rfl, HM.out, below_drewN hb _⟩
    · have HM : Hid (S = a) := hn.out.trans (by rw [drop_nil (l := E.take b') (k := k) (by rw [List.length_take]; omega)]; rfl)
      have hkI : (b' : Int) ≤ (k : Int) := by omega
      clear hn
      go_wp2_with fail
      go_ret
      exact ⟨by rw [HM.out]; rfl, hb⟩

/-- The events of a kind. -/
def thoL (kd : Int) : List Evt → Nat → List Int
  | [], _ => []
  | x :: E, i => if x.kind == kd then (i : Int) :: thoL kd E (i + 1) else thoL kd E (i + 1)

set_option maxHeartbeats 1000000 in
theorem those_any (E : List Evt) (hE : E.length ≤ 96) (kd : Int) (v : Value) (w : World) (h : Ev9At w v E) :
    Calls Tryz.prog 149 #[v, .int .i64 kd] w fun e w' => ∃ u, e = .returned u ∧ IntNew w.heap.size w' u (thoL kd E 0) ∧ Below w.heap.size w w' := by
  obtain ⟨ao, b, off, cap, hv, ha, _, hc⟩ := h
  subst hv
  obtain ⟨i0, hi, hz0, hz1, hz2⟩ := info_parts Tryz.info3
  have HI : Hid (Tryz.prog.info? 3 = some i0 ∧ i0.zero = some (.int .i64 0) ∧ i0.size = 1 ∧ i0.bytes = 8) := ⟨hi, hz0, hz1, hz2⟩
  clear hi hz0 hz1 hz2
  go_enter Tryz.func149, Tryz.ntmps149
  go_wp2_with fail
  go_loopw [5, 6] (fun u i wr => ∃ (k : Nat) (xs : List Int), k ≤ E.length ∧ i = .int .i64 k ∧ xs.length ≤ k ∧ Hid (thoL kd E 0 = xs ++ thoL kd (E.drop k) k) ∧ wr.ownsRow w.heap.size 3 1 u xs.length (xs.map (Value.int .i64)) ∧ Below w.heap.size w wr) (fun _ i _ => E.length - (intOf i).toNat)
  case atStart => exact ⟨0, [], Nat.zero_le _, rfl, Nat.le_refl _, rfl, World.ownsRow_nil _ _ _ _, Below.refl _ _⟩
  case round =>
    obtain ⟨k, xs, hk, rfl, hxk, hn, hown, hb⟩ := hrel
    have hsz := hb.size
    by_cases hlt : k < E.length
    · obtain ⟨x, hx⟩ := get_of_lt hlt
      have hC := hc k x hx
      have hbl := hC.lt
      obtain rfl := ha (ne_nil hlt)
      obtain ⟨_, _, c2, _, _, _, _, _, _⟩ := ev9C_keeps _ _ _ _ _ hb hC
      have HN : Hid (thoL kd E 0 = xs ++ thoL kd (x :: E.drop (k + 1)) k) := by rw [← drop_cons hx]; exact hn
      have HC : Hid (∀ k x, E[k]? = some x → Ev9C w b (off + k * 9) x) := hc
      clear hn hx hc hC ha
      cases h1 : x.kind == kd
      · have HM : Hid (thoL kd E 0 = xs ++ thoL kd (E.drop (k + 1)) (k + 1)) := HN.out.trans (by rw [thoL, if_neg (by simp [h1])])
        go_wp2_with fail
        go_roundw
        case measure => simp [intOf]; omega
        case rel => exact ⟨k + 1, xs, by omega, by go_num, by omega, HM.out, hown, hb⟩
      · have HM : Hid (thoL kd E 0 = (xs ++ [(k : Int)]) ++ thoL kd (E.drop (k + 1)) (k + 1)) := HN.out.trans (by rw [thoL, if_pos h1]; simp)
        go_wp2_with (at_builtin; refine append_new _ rfl (.tmp 20) (.tmp 22) 26 rfl w.heap.size 3 i0 (.int .i64 0) 1 8 Tryz.underlying26 HI.out.1 HI.out.2.1 HI.out.2.2.1 HI.out.2.2.2 rfl (by decide) u5 xs.length (xs.map (Value.int .i64)) rfl (hown.alloc _) (some ⟨wr.heap.size, 0, none⟩) 1 1 [.int .i64 k] rfl (fun h => by cases h) rfl (fun ad had => by cases had; exact new_one rfl) (by simp [Value.oneCell']) (by unfold maxLen; omega) (by omega) (by simp; omega) ?_)
        intro u' w1 hown' hgrow _
        have hb' : Below w.heap.size w w1 := Below.grown (hb.alloc hsz _) hgrow (by simp; omega) (fun kk e => (hown.lt kk e).1)
        have HO : Hid (w1.ownsRow w.heap.size 3 1 u' (xs ++ [(k : Int)]).length ((xs ++ [(k : Int)]).map (Value.int .i64))) := own_snoc hown'
        clear hgrow hown hown'
        go_wp2_with fail
        go_roundw
        case measure => simp [intOf]; omega
        case rel => exact ⟨k + 1, xs ++ [(k : Int)], by omega, by go_num, by simp; omega, HM.out, HO.out, hb'⟩
    · have HM : Hid (thoL kd E 0 = xs) := hn.out.trans (by rw [drop_nil hlt]; simp [thoL])
      clear hn hc ha
      go_wp2_with fail
      go_ret
      exact ⟨_, rfl, by rw [HM.out]; exact owns_int hown, hb⟩

end Go.Proofs.YtomijmikkbhgmaaGreat

namespace Go.Proofs.YtomijmikkbhgmaaGreat

/-- The value of an event, by no more than so many steps. -/
def valN (E : List Evt) (S : Nat → Int) : Nat → Int → Int
  | 0, _ => 0
  | d + 1, i => if i < 0 then 0 else match E[i.toNat]? with
    | none => 0
    | some y => if y.kind == 0 then valN E S d (S i.toNat) else if y.ins.op == 1 then valN E S d (srcG y (E.take i.toNat) 0 (-1)) else y.ins.val

theorem valN_neg (E : List Evt) (S : Nat → Int) (d : Nat) {i : Int} (h : i < 0) : valN E S d i = 0 := by
  cases d with
  | zero => rfl
  | succ d => unfold valN; rw [if_pos h]
theorem valN_read {E : List Evt} {S : Nat → Int} {d i : Nat} {y : Evt} (h : E[i]? = some y) (hk : (y.kind == 0) = true) : valN E S (d + 1) (i : Int) = valN E S d (S i) := by
  rw [valN, if_neg (by omega), Int.toNat_natCast, h]
  simp only [hk, if_true]
theorem valN_copy {E : List Evt} {S : Nat → Int} {d i : Nat} {y : Evt} (h : E[i]? = some y) (hk : (y.kind == 0) = false) (ho : (y.ins.op == 1) = true) : valN E S (d + 1) (i : Int) = valN E S d (srcG y (E.take i) 0 (-1)) := by
  rw [valN, if_neg (by omega), Int.toNat_natCast, h]
  simp only [hk, ho, if_true, Bool.false_eq_true, if_false]
theorem valN_else {E : List Evt} {S : Nat → Int} {d i : Nat} {y : Evt} (h : E[i]? = some y) (hk : (y.kind == 0) = false) (ho : (y.ins.op == 1) = false) : valN E S (d + 1) (i : Int) = y.ins.val := by
  rw [valN, if_neg (by omega), Int.toNat_natCast, h]
  simp only [hk, ho, Bool.false_eq_true, if_false]

/-- An event of a thread, into a register: for those who look for the last Read. -/
def evtOf (thread reg : Int) : Evt := ⟨thread, 0, 0, 0, ⟨0, 0, reg, 0, 0⟩⟩

def regV (E : List Evt) (S : Nat → Int) (i r : Nat) : Int := valN E S (2 * E.length) (srcG (evtOf i r) E 0 (-1))
def locV (E : List Evt) (S : Nat → Int) (x : Exe) (j : Nat) : Int := match (x.order.getD j []).getLast? with
  | none => 0
  | some w => valN E S (2 * E.length) w
/-- What is held in the end. -/
def staL (k : Nat) (E : List Evt) (S : Nat → Int) (x : Exe) : List Int := ((List.range k).flatMap fun i => (List.range 3).map (regV E S i)) ++ (List.range 3).map (locV E S x)

theorem srcG_range (y : Evt) (E : List Evt) (i : Nat) (a : Int) (ha : a = -1 ∨ ∃ k : Nat, a = (k : Int) ∧ k < i) : srcG y E i a = -1 ∨ ∃ k : Nat, srcG y E i a = (k : Int) ∧ k < i + E.length := by
  induction E generalizing i a with
  | nil =>
    rcases ha with h | ⟨k, h1, h2⟩
    · exact .inl h
    · exact .inr ⟨k, h1, by simpa using h2⟩
  | cons z E ih =>
    rw [srcG]
    have h2 := ih (i + 1) (if z.kind == 0 && z.thread == y.thread && z.ins.reg == y.ins.reg then (i : Int) else a) (by
      split
      · exact .inr ⟨i, rfl, by omega⟩
      · rcases ha with h | ⟨k, h1, h2⟩
        · exact .inl h
        · exact .inr ⟨k, h1, by omega⟩)
    rcases h2 with h | ⟨k, h1, h2⟩
    · exact .inl h
    · exact .inr ⟨k, h1, by rw [List.length_cons]; omega⟩

end Go.Proofs.YtomijmikkbhgmaaGreat

namespace Go.Proofs.YtomijmikkbhgmaaGreat
open Go.RowKit

set_option maxHeartbeats 1000000 in
theorem in_any (l : List Int) (x : Int) (v : Value) (w : World) (h : IntAt w v l) (hl : l.length ≤ 100000) :
    Calls Tryz.prog 108 #[v, .int .i64 x] w fun e w' => e = .returned (.bool (l.contains x)) ∧ w' = w := by
  obtain ⟨ao, b, off, cap, hv, ha, _, hc⟩ := h
  subst hv
  have HC : Hid (∀ k x, l[k]? = some x → IntC w b (off + k * 1) x) := hc
  have HB : Hid (l.contains x = (l.drop 0).contains x) := rfl
  generalize l.contains x = B at HB ⊢
  clear hc
  go_enter Tryz.func108, Tryz.ntmps108
  go_wp2_with fail
  go_loop [5] (fun i => ∃ k : Nat, k ≤ l.length ∧ i = .int .i64 k ∧ Hid (B = (l.drop k).contains x)) (fun i => l.length - (intOf i).toNat)
  case atStart => exact ⟨0, Nat.zero_le _, rfl, HB.out⟩
  case round =>
    clear HB
    obtain ⟨k, hk, rfl, hn⟩ := hrel
    by_cases hlt : k < l.length
    · obtain ⟨y, hy⟩ := get_of_lt hlt
      obtain rfl := ha (ne_nil hlt)
      have c0 := HC.out k y hy
      unfold IntC at c0
      rw [Nat.mul_one] at c0
      have hkI : (k : Int) < (l.length : Int) := by omega
      have HN : Hid (B = (y :: l.drop (k + 1)).contains x) := by rw [← drop_cons hy]; exact hn
      clear hn hy
      cases hxy : y == x
      · have HM : Hid (B = (l.drop (k + 1)).contains x) := HN.out.trans (by rw [List.contains_cons, Bool.beq_comm, hxy, Bool.false_or])
        clear HN
        go_wp2_with fail
        go_round
        case measure => simp [intOf]; omega
        case rel => exact ⟨k + 1, by omega, by go_num, HM.out⟩
      · have HM : Hid (B = true) := HN.out.trans (by rw [List.contains_cons, Bool.beq_comm, hxy, Bool.true_or])
        clear HN
        go_wp2_with fail
        go_ret
        exact ⟨by rw [HM.out]; rfl, rfl⟩
    · have HM : Hid (B = false) := hn.out.trans (by rw [drop_nil hlt]; rfl)
      clear hn
      go_wp2_with fail
      go_ret
      exact ⟨by rw [HM.out]; rfl, rfl⟩

theorem zip_get {α β : Type} {l : List α} {m : List β} {k : Nat} {a : α} {b : β} (h1 : l[k]? = some a) (h2 : m[k]? = some b) : (l.zip m)[k]? = some (a, b) := by
  rw [List.getElem?_zip_eq_some]; exact ⟨h1, h2⟩

/-- Has a list each entry of another one, and as many? -/
def shufB (l m : List Int) : Bool := l.length == m.length && m.all fun y => l.contains y

set_option maxHeartbeats 1000000 in
theorem shuffled_any (l m : List Int) (hm : m.length ≤ 100000) (u v : Value) (w : World) (hu : IntAt w u l) (hv : IntAt w v m) :
    Calls Tryz.prog 110 #[u, v] w fun e w' => e = .returned (.bool (shufB l m)) ∧ w' = w := by
  have HU : Hid (IntAt w u l) := hu
  obtain ⟨ao, b, off, cap, hv1, ha, _, hc⟩ := hu
  obtain ⟨ao2, b2, off2, cap2, hv2, ha2, _, hc2⟩ := hv
  subst hv1 hv2
  have HC : Hid (∀ k x, m[k]? = some x → IntC w b2 (off2 + k * 1) x) := hc2
  clear hc hc2
  by_cases hlen : l.length = m.length
  · have k0 : ((l.length : Int) != (m.length : Int)) = false := by simp [hlen]
    have HB : Hid (shufB l m = (m.drop 0).all fun y => l.contains y) := by show shufB l m = _; unfold shufB; simp [hlen]
    have HLL : Hid (l.length ≤ 100000) := by show l.length ≤ _; omega
    have HLEN : Hid (l.length = m.length) := hlen
    generalize shufB l m = B at HB ⊢
    clear hlen
    go_enter Tryz.func110, Tryz.ntmps110
    go_wp2_with fail
    go_loop [5] (fun i => ∃ k : Nat, k ≤ m.length ∧ i = .int .i64 k ∧ Hid (B = (m.drop k).all fun y => l.contains y)) (fun i => m.length - (intOf i).toNat)
    case atStart => exact ⟨0, Nat.zero_le _, rfl, HB.out⟩
    case round =>
      clear HB
      obtain ⟨k, hk, rfl, hn⟩ := hrel
      by_cases hlt : k < m.length
      · obtain ⟨y, hy⟩ := get_of_lt hlt
        obtain rfl := ha2 (ne_nil hlt)
        have c0 := HC.out k y hy
        unfold IntC at c0
        rw [Nat.mul_one] at c0
        have hkI : (k : Int) < (m.length : Int) := by omega
        have HN : Hid (B = (l.contains y && (m.drop (k + 1)).all fun y => l.contains y)) := hn.out.trans (by rw [drop_cons hy, List.all_cons])
        clear hn hy
        go_wp2_with fail
        refine (in_any l y _ _ HU.out HLL.out).mono ?_
        cases hly : l.contains y
        · have HM : Hid (B = false) := HN.out.trans (by rw [hly, Bool.false_and])
          rintro e w3 ⟨rfl, rfl⟩
          clear HN hly
          go_wp2_with fail
          go_ret
          exact ⟨by rw [HM.out]; rfl, rfl⟩
        · have HM : Hid (B = (m.drop (k + 1)).all fun y => l.contains y) := HN.out.trans (by rw [hly, Bool.true_and])
          rintro e w3 ⟨rfl, rfl⟩
          clear HN hly
          go_wp2_with fail
          go_round
          case measure => simp [intOf]; omega
          case rel => exact ⟨k + 1, by omega, by go_num, HM.out⟩
      · have HM : Hid (B = true) := hn.out.trans (by rw [drop_nil hlt]; rfl)
        clear hn
        go_wp2_with fail
        go_ret
        exact ⟨by rw [HM.out]; rfl, rfl⟩
  · have k0 : ((l.length : Int) != (m.length : Int)) = true := by simp; omega
    have HB : Hid (shufB l m = false) := by
      show shufB l m = false
      have : (l.length == m.length) = false := by simpa using hlen
      unfold shufB; rw [this, Bool.false_and]
    go_enter Tryz.func110, Tryz.ntmps110
    go_wp2_with fail
    go_ret
    exact ⟨by rw [HB.out]; rfl, rfl⟩

end Go.Proofs.YtomijmikkbhgmaaGreat

namespace Go.Proofs.YtomijmikkbhgmaaGreat
open Go.RowKit

/-- The worlds that come of one by making memory. -/
structure Grw (w : World) where
  val : World
  low : Below w.heap.size w val

theorem grw_some (w : World) : Nonempty (Grw w) := ⟨⟨w, Below.refl _ _⟩⟩

theorem wp_region_grown {P : Program} {id : Nat} {Q : Exit → Act → World → Prop} {a : Act} {w : World} {l : List Oper} (hm : P.follows .mixedOrders = true) (hB : Region.lexB .any l.toArray = true)
    (h : wpQuiet P l.toArray (fun w' => ∃ z : Grw w, w' = z.val) (fun a' => ∀ w', (∃ z : Grw w, w' = z.val) → Q .normal a' w') l a) : (Code.region id l.toArray true).wp P Q a w :=
  wp_region_quiet (C := fun w' => ∃ z : Grw w, w' = z.val) hm hB ⟨⟨w.drew, (Below.refl _ _).drew⟩, rfl⟩ (by simpa using h)

theorem grown_call {P : Program} {f : FuncId} {args : Array Value} {w : World} {z : Grw w} {v : Value} (h : Calls P f args z.val fun e w' => e = .returned v ∧ Below z.val.heap.size z.val w') :
    Calls P f args z.val fun e w'' => e = .returned v ∧ ∃ z' : Grw w, w'' = z'.val :=
  h.mono fun _ w'' ⟨he, hb⟩ => ⟨he, ⟨w'', below_more z.low hb⟩, rfl⟩

theorem grown_cell {w : World} {b o : Nat} {u : Value} (h : w.cell? ⟨b, o, none⟩ = some u) : ∀ z : Grw w, z.val.cell? ⟨b, o, none⟩ = some u := fun z => keep_cell z.low h

end Go.Proofs.YtomijmikkbhgmaaGreat
