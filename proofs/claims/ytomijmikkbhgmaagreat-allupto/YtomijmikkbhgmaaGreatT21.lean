import Derived.Test.YtomijmikkbhgmaaGreatT16
import Derived.Test.YtomijmikkbhgmaaGreatQf
import Derived.Test.YtomijmikkbhgmaaGreatLu
import Derived.Test.YtomijmikkbhgmaaGreatT14
import Derived.Test.YtomijmikkbhgmaaGreatT19
import Derived.Test.YtomijmikkbhgmaaGreatT13
namespace Go.Proofs.YtomijmikkbhgmaaGreat
open Go.RowKit

theorem arw_cells {w : World} {v : Value} {A : List (Int × Int)} {ao : Option Addr} {b off cap : Nat} (h : SlAt w 2 ArwC v A ao b off cap) : ∀ ad, ao = some ad → ∀ j u, (A.flatMap arwV)[j]? = some u → w.cell? (ad.add j) = some u := by
  intro ad had j u hj
  have hne : A ≠ [] := by rintro rfl; simp at hj
  have h1 := h.ha hne
  rw [had] at h1
  cases h1
  have hlen := (List.getElem?_eq_some_iff.1 hj).1
  rw [flat_len arwV 2 (fun _ => rfl)] at hlen
  obtain ⟨x, hx⟩ := get_of_lt (l := A) (k := j / 2) (by omega)
  have hf := flat_get arwV 2 (fun _ => rfl) A (j / 2) (j % 2) x hx (by omega)
  rw [show j / 2 * 2 + j % 2 = j by omega, hj] at hf
  rw [Addr.add_lit]
  have hc := h.hc _ x hx
  rcases (by omega : j % 2 = 0 ∨ j % 2 = 1) with e | e
  · rw [e] at hf
    have : u = .int .i64 x.1 := by simpa [arwV] using hf
    rw [this, show off + j = off + j / 2 * 2 by omega]
    exact hc.c0
  · rw [e] at hf
    have : u = .int .i64 x.2 := by simpa [arwV] using hf
    rw [this, show off + j = off + j / 2 * 2 + 1 by omega]
    exact hc.c1

/-- What Judge answers: Incoherent, Torn, Circular, Spanning or Allowed. -/
def JudIs (P : Prop) (t : Bool) (Q S : Prop) (r : Int) : Prop := (r = 1 ∧ P) ∨ (¬ P ∧ ((r = 2 ∧ t = true) ∨ (t = false ∧ ((r = 3 ∧ Q) ∨ (¬ Q ∧ ((r = 4 ∧ S) ∨ (¬ S ∧ r = 0)))))))

theorem JudIs.one {P : Prop} {t : Bool} {Q S : Prop} {r r' : Int} (h : JudIs P t Q S r) (k : JudIs P t Q S r') : r = r' := by
  rcases h with ⟨h1, h2⟩ | ⟨h2, ⟨h1, h3⟩ | ⟨h3, ⟨h1, h4⟩ | ⟨h4, ⟨h1, h5⟩ | ⟨h5, h1⟩⟩⟩⟩ <;>
  rcases k with ⟨k1, k2⟩ | ⟨k2, ⟨k1, k3⟩ | ⟨k3, ⟨k1, k4⟩ | ⟨k4, ⟨k1, k5⟩ | ⟨k5, k1⟩⟩⟩⟩ <;>
  first
    | exact h1.trans k1.symm
    | exact absurd ‹P› ‹¬ P›
    | exact absurd ‹Q› ‹¬ Q›
    | exact absurd ‹S› ‹¬ S›
    | (rw [h3] at k3; cases k3)

/-- The document's notions. -/
def cohA (E : List Evt) (x : Exe) : List (Int × Int) := arwL E x ++ allD (pairB E cohP) E.length E.length
def kepA (T : List (List Ins)) (E : List Evt) (x : Exe) : List (Int × Int) := arwL E x ++ allD (pairB E (keepP T E)) E.length E.length

theorem kepA_len {T : List (List Ins)} {E : List Evt} {x : Exe} (hE : E.length ≤ 96) (hX : XOk E x) : (kepA T E x).length ≤ 100000 := by
  unfold kepA
  rw [List.length_append]
  have h1 := arwL_len hE hX
  have h2 := allD_len (pairB E (keepP T E)) E.length E.length
  have h3 : E.length * E.length ≤ 96 * 96 := Nat.mul_le_mul hE hE
  omega

end Go.Proofs.YtomijmikkbhgmaaGreat

namespace Go.Proofs.YtomijmikkbhgmaaGreat
open Go.RowKit

theorem thoL_hit {x : Evt} {kd : Int} (h : (x.kind == kd) = true) (E : List Evt) (i : Nat) : thoL kd (x :: E) i = (i : Int) :: thoL kd E (i + 1) := by rw [thoL, if_pos h]
theorem thoL_mis {x : Evt} {kd : Int} (h : (x.kind == kd) = false) (E : List Evt) (i : Nat) : thoL kd (x :: E) i = thoL kd E (i + 1) := by rw [thoL, if_neg (by simp [h])]

set_option maxHeartbeats 1000000 in
theorem ofKind_any (E : List Evt) (hE : E.length ≤ 96) (kd : Int) (v : Value) (w : World) (h : Ev4At w v E) :
    Calls Tryz.prog 142 #[v, .int .i64 kd] w fun e w' => ∃ u, e = .returned u ∧ IntNew w.heap.size w' u (thoL kd E 0) ∧ Below w.heap.size w w' := by
  obtain ⟨ao, b, off, cap, hv, ha, _, hc⟩ := h
  subst hv
  obtain ⟨i0, hi, hz0, hz1, hz2⟩ := info_parts Tryz.info3
  have HI : Hid (Tryz.prog.info? 3 = some i0 ∧ i0.zero = some (.int .i64 0) ∧ i0.size = 1 ∧ i0.bytes = 8) := ⟨hi, hz0, hz1, hz2⟩
  clear hi hz0 hz1 hz2
  go_enter Tryz.func142, Tryz.ntmps142
  go_wp2_with fail
  go_loopw [5, 10] (fun u i wr => ∃ (k : Nat) (xs : List Int), k ≤ E.length ∧ i = .int .i64 k ∧ xs.length ≤ k ∧ Hid (thoL kd E 0 = xs ++ thoL kd (E.drop k) k) ∧ wr.ownsRow w.heap.size 3 1 u xs.length (xs.map (Value.int .i64)) ∧ Below w.heap.size w wr) (fun _ i _ => E.length - (intOf i).toNat)
  case atStart => exact ⟨0, [], Nat.zero_le _, rfl, Nat.le_refl _, rfl, World.ownsRow_nil _ _ _ _, Below.refl _ _⟩
  case round =>
    obtain ⟨k, xs, hk, rfl, hxk, hn, hown, hb⟩ := hrel
    by_cases hlt : k < E.length
    · obtain ⟨x, hx⟩ := get_of_lt hlt
      have hC := hc k x hx
      have hbl := hC.lt
      obtain rfl := ha (ne_nil hlt)
      obtain ⟨c0, c1, c2, c3⟩ := ev4C_keeps _ _ _ _ _ hb hC
      have HN : Hid (thoL kd E 0 = xs ++ thoL kd (x :: E.drop (k + 1)) k) := by rw [← drop_cons hx]; exact hn
      have hsz := hb.size
      clear hn hx hc hC ha
      cases h1 : x.kind == kd
      · have HM : Hid (thoL kd E 0 = xs ++ thoL kd (E.drop (k + 1)) (k + 1)) := HN.out.trans (by rw [thoL_mis h1])
        go_wp2_with fail
        go_roundw
        case measure => simp [intOf]; omega
        case rel => exact ⟨k + 1, xs, by omega, by go_num, by omega, HM.out, hown.alloc _, hb.alloc hb.size _⟩
      · have HM : Hid (thoL kd E 0 = (xs ++ [(k : Int)]) ++ thoL kd (E.drop (k + 1)) (k + 1)) := HN.out.trans (by rw [thoL_hit h1]; simp)
        go_wp2_with (at_builtin; refine wpList_append_own _ rfl _ _ 26 rfl w.heap.size 3 i0 (.int .i64 0) 1 8 Tryz.underlying26 HI.out.1 HI.out.2.1 HI.out.2.2.1 HI.out.2.2.2 rfl (by decide) _ _ _ rfl ((hown.alloc _).alloc _) ⟨wr.heap.size + 1, 0, none⟩ 1 1 [.int .i64 k] rfl rfl (new_one (by simp)) (by simp [Value.oneCell']) (by unfold maxLen; omega) (by omega) (by simp; omega) ?_)
        intro u' w1 hown' hgrow _
        have hb' : Below w.heap.size w w1 := Below.grown ((hb.alloc hsz _).alloc (by simp; omega) _) hgrow (by simp; omega) (fun kk e => (hown.lt kk e).1)
        clear hgrow hown
        go_wp2_with fail
        go_roundw
        case measure => simp [intOf]; omega
        case rel => exact ⟨k + 1, xs ++ [(k : Int)], by omega, by go_num, by simp; omega, HM.out, own_snoc hown', hb'⟩
    · have HM : Hid (thoL kd E 0 = xs) := hn.out.trans (by rw [drop_nil hlt]; simp [thoL])
      clear hn hc ha
      go_wp2_with fail
      go_ret
      exact ⟨_, rfl, by rw [HM.out]; exact owns_int hown, hb⟩

/-- The program's notions. -/
def exQ (E : List Evt) (x : Exe) : List (Int × Int) := allS (exF E (rankG E.length (srcL E x.from') x.order)) (fun j => (srcL E x.from').getD j 0) E.length E.length
def cohB (E : List Evt) (x : Exe) : List (Int × Int) := exQ E x ++ allU (pairB E cohQ) E.length
def kepQ (T : List (List Ins)) (E : List Evt) (x : Exe) : List (Int × Int) := exQ E x ++ allU (pairB E (keepQ T E)) E.length

theorem range_getD (S : List Int) (n : Nat) (h : S.length = n) : (List.range n).map (fun j => S.getD j 0) = S := by
  apply List.ext_getElem?
  intro i
  rw [List.getElem?_map]
  by_cases hi : i < n
  · rw [List.getElem?_eq_getElem (by simpa using hi)]
    simp only [List.getElem_range, Option.map_some]
    rw [List.getD, List.getElem?_eq_getElem (by omega)]
    rfl
  · rw [List.getElem?_eq_none (by simpa using hi), List.getElem?_eq_none (by omega)]; rfl

end Go.Proofs.YtomijmikkbhgmaaGreat

namespace Go.Proofs.YtomijmikkbhgmaaGreat
open Go.RowKit

set_option maxHeartbeats 1000000 in
theorem isIn_any (l : List Int) (x : Int) (v : Value) (w : World) (h : IntAt w v l) (hl : l.length ≤ 100000) :
    Calls Tryz.prog 132 #[v, .int .i64 x] w fun e w' => e = .returned (.bool (l.contains x)) ∧ w' = w := by
  obtain ⟨ao, b, off, cap, hv, ha, _, hc⟩ := h
  subst hv
  have HC : Hid (∀ k x, l[k]? = some x → IntC w b (off + k * 1) x) := hc
  have HB : Hid (l.contains x = (l.drop 0).contains x) := rfl
  generalize l.contains x = B at HB ⊢
  clear hc
  go_enter Tryz.func132, Tryz.ntmps132
  go_wp2_with fail
  go_loop [9] (fun i => ∃ k : Nat, k ≤ l.length ∧ i = .int .i64 k ∧ Hid (B = (l.drop k).contains x)) (fun i => l.length - (intOf i).toNat)
  case atStart => exact ⟨0, Nat.zero_le _, rfl, HB.out⟩
  case round =>
    clear HB
    obtain ⟨k, hk, rfl, hn⟩ := hrel
    by_cases hlt : k < l.length
    · obtain ⟨y, hy⟩ := get_of_lt hlt
      obtain rfl := ha (ne_nil hlt)
      have c0 := HC.out k y hy
      unfold IntC at c0
      rw [Nat.mul_one] at c0
      have hkI : (k : Int) < (l.length : Int) := by omega
      have HN : Hid (B = (y :: l.drop (k + 1)).contains x) := by rw [← drop_cons hy]; exact hn
      clear hn hy
      cases hxy : y == x
      · have HM : Hid (B = (l.drop (k + 1)).contains x) := HN.out.trans (by rw [List.contains_cons, Bool.beq_comm, hxy, Bool.false_or])
        clear HN
        go_wp2_with fail
        go_round
        case measure => simp [intOf]; omega
        case rel => exact ⟨k + 1, by omega, by go_num, HM.out⟩
      · have HM : Hid (B = true) := HN.out.trans (by rw [List.contains_cons, Bool.beq_comm, hxy, Bool.true_or])
        clear HN
        go_wp2_with fail
        go_ret
        exact ⟨by rw [HM.out]; rfl, rfl⟩
    · have HM : Hid (B = false) := hn.out.trans (by rw [drop_nil hlt]; rfl)
      have hkI : (l.length : Int) ≤ (k : Int) := by omega
      clear hn
      go_wp2_with fail
      go_ret
      exact ⟨by rw [HM.out]; rfl, rfl⟩

set_option maxHeartbeats 1000000 in
theorem isOrderOf_any (l m : List Int) (hm : m.length ≤ 100000) (u v : Value) (w : World) (hu : IntAt w u l) (hv : IntAt w v m) :
    Calls Tryz.prog 134 #[u, v] w fun e w' => e = .returned (.bool (shufB l m)) ∧ w' = w := by
  have HU : Hid (IntAt w u l) := hu
  obtain ⟨ao, b, off, cap, hv1, ha, _, hc⟩ := hu
  obtain ⟨ao2, b2, off2, cap2, hv2, ha2, _, hc2⟩ := hv
  subst hv1 hv2
  have HC : Hid (∀ k x, m[k]? = some x → IntC w b2 (off2 + k * 1) x) := hc2
  clear hc hc2
  by_cases hlen : l.length = m.length
  · have k0 : ((l.length : Int) != (m.length : Int)) = false := by simp [hlen]
    have HB : Hid (shufB l m = (m.drop 0).all fun y => l.contains y) := by show shufB l m = _; unfold shufB; simp [hlen]
    have HLL : Hid (l.length ≤ 100000) := by show l.length ≤ _; omega
    generalize shufB l m = B at HB ⊢
    clear hlen
    go_enter Tryz.func134, Tryz.ntmps134
    go_wp2_with fail
    go_loop [14] (fun i => ∃ k : Nat, k ≤ m.length ∧ i = .int .i64 k ∧ Hid (B = (m.drop k).all fun y => l.contains y)) (fun i => m.length - (intOf i).toNat)
    case atStart => exact ⟨0, Nat.zero_le _, rfl, HB.out⟩
    case round =>
      clear HB
      obtain ⟨k, hk, rfl, hn⟩ := hrel
      by_cases hlt : k < m.length
      · obtain ⟨y, hy⟩ := get_of_lt hlt
        obtain rfl := ha2 (ne_nil hlt)
        have c0 := HC.out k y hy
        unfold IntC at c0
        rw [Nat.mul_one] at c0
        have hkI : (k : Int) < (m.length : Int) := by omega
        have HN : Hid (B = (l.contains y && (m.drop (k + 1)).all fun y => l.contains y)) := hn.out.trans (by rw [drop_cons hy, List.all_cons])
        clear hn hy
        go_wp2_with fail
        refine (isIn_any l y _ _ HU.out HLL.out).mono ?_
        cases hly : l.contains y
        · have HM : Hid (B = false) := HN.out.trans (by rw [hly, Bool.false_and])
          rintro e w3 ⟨rfl, rfl⟩
          clear HN hly
          go_wp2_with fail
          go_ret
          exact ⟨by rw [HM.out]; rfl, rfl⟩
        · have HM : Hid (B = (m.drop (k + 1)).all fun y => l.contains y) := HN.out.trans (by rw [hly, Bool.true_and])
          rintro e w3 ⟨rfl, rfl⟩
          clear HN hly
          go_wp2_with fail
          go_round
          case measure => simp [intOf]; omega
          case rel => exact ⟨k + 1, by omega, by go_num, HM.out⟩
      · have HM : Hid (B = true) := hn.out.trans (by rw [drop_nil hlt]; rfl)
        have hkI : (m.length : Int) ≤ (k : Int) := by omega
        clear hn
        go_wp2_with fail
        go_ret
        exact ⟨by rw [HM.out]; rfl, rfl⟩
  · have k0 : ((l.length : Int) != (m.length : Int)) = true := by simp; omega
    have HB : Hid (shufB l m = false) := by
      show shufB l m = false
      have : (l.length == m.length) = false := by simpa using hlen
      unfold shufB; rw [this, Bool.false_and]
    go_enter Tryz.func134, Tryz.ntmps134
    go_wp2_with fail
    go_ret
    exact ⟨by rw [HB.out]; rfl, rfl⟩

/-- Of these reads, each with one of what it may read from, and no more. -/
def fromB (E0 : List Evt) : List Evt → List Int → Bool
  | [], F => F.isEmpty
  | y :: E, F => if y.kind == 0 then (match F with
    | [] => false
    | f :: F => (-1 :: wrs E0 0 y.loc).contains f && fromB E0 E F) else fromB E0 E F

theorem fromB_not {E0 : List Evt} {y : Evt} (h : (y.kind == 0) = false) (E : List Evt) (F : List Int) : fromB E0 (y :: E) F = fromB E0 E F := by simp [fromB, h]
theorem fromB_out {E0 : List Evt} {y : Evt} (h : (y.kind == 0) = true) (E : List Evt) : fromB E0 (y :: E) [] = false := by simp [fromB, h]
theorem fromB_read {E0 : List Evt} {y : Evt} (h : (y.kind == 0) = true) (E : List Evt) (f : Int) (F : List Int) : fromB E0 (y :: E) (f :: F) = ((-1 :: wrs E0 0 y.loc).contains f && fromB E0 E F) := by simp [fromB, h]

theorem fromB_eq (E0 : List Evt) (E : List Evt) (i : Nat) (F : List Int) : fromB E0 E F = (F.length == (rdsX E i).length && ((rdsX E i).zip F).all (okFrom E0)) := by
  induction E generalizing i F with
  | nil =>
    cases F with
    | nil => rfl
    | cons f F => rfl
  | cons y E ih =>
    cases h : y.kind == 0
    · rw [fromB_not h, rdsX_mis h]; exact ih (i + 1) F
    · rw [rdsX_hit h]
      cases F with
      | nil => rw [fromB_out h]; rfl
      | cons f F =>
        rw [fromB_read h, ih (i + 1) F, List.zip_cons_cons, List.all_cons]
        have e1 : (-1 :: wrs E0 0 y.loc).contains f = okFrom E0 ((i, y), f) := by
          unfold okFrom
          rw [List.contains_cons]
          exact Bool.or_comm _ _
        rw [e1]
        simp only [List.length_cons]
        have e2 : (F.length + 1 == (rdsX E (i + 1)).length + 1) = (F.length == (rdsX E (i + 1)).length) := by
          rw [Bool.eq_iff_iff]; simp
        rw [e2]
        cases okFrom E0 ((i, y), f) <;> cases (F.length == (rdsX E (i + 1)).length) <;> rfl

set_option maxRecDepth 20000 in
set_option maxHeartbeats 1000000 in
theorem hasFrom_any (E : List Evt) (hE : E.length ≤ 96) (F : List Int) (v vf : Value) (w : World) (h : Ev4At w v E) (hf : IntAt w vf F) :
    Calls Tryz.prog 97 #[v, vf] w fun e w' => e = .returned (.bool (fromB E E F)) ∧ Below w.heap.size w w' := by
  have HE : Hid (Ev4At w v E) := h
  obtain ⟨ao, b, off, cap, hv, ha, _, hc⟩ := h
  obtain ⟨aof, bf, offf, capf, hvf, haf, _, hcf⟩ := hf
  subst hv hvf
  have HC : Hid (∀ k y, E[k]? = some y → Ev4C w b (off + k * 4) y) := hc
  have HF : Hid (∀ k a, F[k]? = some a → IntC w bf (offf + k * 1) a) := hcf
  have HB : Hid (fromB E E F = fromB E (E.drop 0) (F.drop 0)) := rfl
  generalize fromB E E F = B at HB ⊢
  clear hc hcf
  go_enter Tryz.func97, Tryz.ntmps97
  go_wp2_with fail
  go_loopw [5, 11] (fun u i wr => ∃ (k c : Nat), k ≤ E.length ∧ c ≤ k ∧ c ≤ F.length ∧ i = .int .i64 k ∧ u = .int .i64 c ∧ Hid (B = fromB E (E.drop k) (F.drop c)) ∧ Below w.heap.size w wr) (fun _ i _ => E.length - (intOf i).toNat)
  case atStart => exact ⟨0, 0, Nat.zero_le _, Nat.zero_le _, Nat.zero_le _, rfl, rfl, HB.out, Below.refl _ _⟩
  case round =>
    clear HB
    obtain ⟨k, n, hk, hnk, hnF, rfl, rfl, hs, hb⟩ := hrel
    have hsz := hb.size
    by_cases hlt : k < E.length
    · obtain ⟨y, hy⟩ := get_of_lt hlt
      obtain rfl := ha (ne_nil hlt)
      obtain ⟨c0, c1, c2, c3⟩ := ev4C_keeps _ _ _ _ _ hb (HC.out k y hy)
      have hkI : (k : Int) < (E.length : Int) := by omega
      have m0 := World.block_lt_of_cell? _ _ c0
      simp only at m0
      have HS0 : Hid (B = fromB E (y :: E.drop (k + 1)) (F.drop n)) := hs.out.trans (by rw [drop_cons hy])
      have hba := below_alloc wr (.cells #[.int .i64 y.thread, .int .i64 y.place, .int .i64 y.kind, .int .i64 y.loc] 75)
      have hb4 := below_more hb hba
      clear hs hy
      cases h0 : y.kind == 0
      · have h0' : (y.kind != 0) = true := by simp [bne, h0]
        have HM : Hid (B = fromB E (E.drop (k + 1)) (F.drop n)) := HS0.out.trans (fromB_not h0 _ _)
        go_wp2_with fail
        go_roundw
        case measure => simp [intOf]; omega
        case rel => exact ⟨k + 1, n, by omega, by omega, hnF, by go_num, rfl, HM.out, hb4⟩
      · have h0' : (y.kind != 0) = false := by simp [bne, h0]
        by_cases hnl : n < F.length
        · obtain ⟨f, hf⟩ := get_of_lt hnl
          obtain rfl := haf (ne_nil hnl)
          have HM : Hid (B = ((-1 :: wrs E 0 y.loc).contains f && fromB E (E.drop (k + 1)) (F.drop (n + 1)))) := HS0.out.trans (by rw [drop_cons hf, fromB_read h0])
          have hwl := wrs_len E 0 y.loc
          generalize hW : -1 :: wrs E 0 y.loc = W at HM
          have HW : Hid (-1 :: wrs E 0 y.loc = W) := hW
          have hWl : W.length ≤ 100000 := by rw [← hW]; simp; omega
          generalize hcf : W.contains f = CB at HM
          have HCF : Hid (W.contains f = CB) := hcf
          have hnI : (n : Int) < (F.length : Int) := by omega
          have HQ0 : Hid (w.cell? ⟨bf, offf + n, none⟩ = some (.int .i64 f)) := by
            have := HF.out n f hf
            unfold IntC at this
            rw [Nat.mul_one] at this; exact this
          clear HS0 hf hW hcf hwl
          go_wp2_with fail
          refine (sources_any E hE y.loc _ _ (HE.out.keep hb4)).mono ?_
          rw [HW.out]
          rintro e w5 ⟨u5, rfl, hu5, hb5⟩
          have hbw5 := below_more hb4 hb5
          have q0 := keep_cell hbw5 HQ0.out
          have HU5 : Hid (IntAt w5 u5 W) := hu5.at'
          clear c0 c1 c2 c3 m0 hu5
          go_wp2_with fail
          refine (isIn_any W f _ _ HU5.out hWl).mono ?_
          rw [HCF.out]
          rintro e w6 ⟨rfl, hw6⟩
          replace hw6 := hw6.symm
          subst hw6
          cases CB
          · have HM2 : Hid (B = false) := HM.out.trans (by rfl)
            go_wp2_with fail
            go_ret
            exact ⟨by rw [HM2.out]; rfl, hbw5⟩
          · have HM2 : Hid (B = fromB E (E.drop (k + 1)) (F.drop (n + 1))) := HM.out.trans (by rw [Bool.true_and])
            go_wp2_with fail
            go_roundw
            case measure => simp [intOf]; omega
            case rel => exact ⟨k + 1, n + 1, by omega, by omega, by omega, by go_num, by go_num, HM2.out, hbw5⟩
        · have HM : Hid (B = false) := HS0.out.trans (by rw [drop_nil hnl, fromB_out h0])
          have hnI : (F.length : Int) ≤ (n : Int) := by omega
          go_wp2_with fail
          go_ret
          exact ⟨by rw [HM.out]; rfl, hb4⟩
    · have HM : Hid (B = ((n : Int) == (F.length : Int))) := hs.out.trans (by
        rw [drop_nil hlt]
        show (F.drop n).isEmpty = _
        rw [Bool.eq_iff_iff]
        simp [List.isEmpty_iff]
        omega)
      have hkI : (E.length : Int) ≤ (k : Int) := by omega
      clear hs
      go_wp2_with fail
      go_ret
      exact ⟨by rw [HM.out]; rfl, hb⟩

set_option maxRecDepth 20000 in
set_option maxHeartbeats 1000000 in
theorem hasOrder_any (E : List Evt) (hE : E.length ≤ 96) (x : Exe) (v vo : Value) (w : World) (h : Ev4At w v E) (ho : LstAt w vo x.order) :
    Calls Tryz.prog 98 #[v, vo] w fun e w' => e = .returned (.bool (x.order.length == 3 && (List.range' 0 3).all (okOrd E x))) ∧ Below w.heap.size w w' := by
  have HE : Hid (Ev4At w v E) := h
  obtain ⟨ao, b, off, cap, hv, _⟩ := h
  obtain ⟨aoo, bo, offo, capo, hvo, hao, _, hco⟩ := ho
  subst hv hvo
  have HO : Hid (∀ k l, x.order[k]? = some l → LC w bo (offo + k * 1) l) := hco
  clear hco
  by_cases h3 : x.order.length = 3
  · have HB : Hid ((x.order.length == 3 && (List.range' 0 3).all (okOrd E x)) = (List.range' 0 (3 - 0)).all (okOrd E x)) := by show _ = _; rw [h3]; rfl
    generalize (x.order.length == 3 && (List.range' 0 3).all (okOrd E x)) = B at HB ⊢
    have HL3 : Hid (x.order.length = 3) := h3
    obtain rfl := hao (by intro h; rw [h] at h3; simp at h3)
    rw [h3]
    clear h3 hao
    go_enter Tryz.func98, Tryz.ntmps98
    go_wp2_with fail
    go_loopw [13] (fun i wr => ∃ j : Nat, j ≤ 3 ∧ i = .int .i64 j ∧ Hid (B = (List.range' j (3 - j)).all (okOrd E x)) ∧ Below w.heap.size w wr) (fun i _ => 3 - (intOf i).toNat)
    case atStart => exact ⟨0, by omega, rfl, HB.out, Below.refl _ _⟩
    case round =>
      clear HB
      obtain ⟨j, hj, rfl, hn, hb⟩ := hrel
      by_cases hj3 : j < 3
      · obtain ⟨l, hl⟩ := get_of_lt (l := x.order) (k := j) (by have := HL3.out; omega)
        obtain ⟨vl, o0, ivl⟩ := HO.out j l hl
        rw [Nat.mul_one] at o0
        have HN : Hid (B = (shufB l (wrs E 0 (j : Int)) && (List.range' (j + 1) (3 - (j + 1))).all (okOrd E x))) := hn.out.trans (by rw [range_step hj3]; unfold okOrd; rw [List.getD, hl]; rfl)
        have HIV : Hid (IntAt w vl l) := ivl
        obtain ⟨aol, capl, hvl⟩ := ivl.form
        subst hvl
        have o1 := keep_cell hb o0
        have hjI : (j : Int) < 3 := by omega
        have hwl := wrs_len E 0 (j : Int)
        generalize hW : wrs E 0 (j : Int) = W at HN hwl
        have HW : Hid (wrs E 0 (j : Int) = W) := hW
        generalize hsh : shufB l W = SB at HN
        have HSH : Hid (shufB l W = SB) := hsh
        clear hn hl ivl o0 hW hsh
        go_wp2_with fail
        refine (writesP_any E hE (j : Int) _ _ (HE.out.keep hb)).mono ?_
        rw [HW.out]
        rintro e w5 ⟨u5, rfl, hu5, hb5⟩
        have hbw5 := below_more hb hb5
        have HU5 : Hid (IntAt w5 u5 W) := hu5.at'
        clear hu5 o1
        go_wp2_with fail
        refine (isOrderOf_any l W (by omega) _ _ _ (HIV.out.keep hbw5) HU5.out).mono ?_
        rw [HSH.out]
        rintro e w6 ⟨rfl, hw6⟩
        replace hw6 := hw6.symm
        subst hw6
        cases SB
        · have HM : Hid (B = false) := HN.out.trans (by rfl)
          go_wp2_with fail
          go_ret
          exact ⟨by rw [HM.out]; rfl, hbw5⟩
        · have HM : Hid (B = (List.range' (j + 1) (3 - (j + 1))).all (okOrd E x)) := HN.out.trans (by rw [Bool.true_and])
          go_wp2_with fail
          go_roundw
          case measure => simp [intOf]; omega
          case rel => exact ⟨j + 1, by omega, by go_num, HM.out, hbw5⟩
      · have hj3' : j = 3 := by omega
        subst hj3'
        have HM : Hid (B = true) := hn.out.trans (by rfl)
        clear hn
        go_wp2_with fail
        go_ret
        exact ⟨by rw [HM.out]; rfl, hb⟩
  · have h3' : ((x.order.length : Int) != 3) = true := by simp; omega
    have HB : Hid ((x.order.length == 3 && (List.range' 0 3).all (okOrd E x)) = false) := by
      show _ = _
      have : (x.order.length == 3) = false := by simpa using h3
      rw [this, Bool.false_and]
    go_enter Tryz.func98, Tryz.ntmps98
    go_wp2_with fail
    go_ret
    exact ⟨by rw [HB.out]; rfl, Below.refl _ _⟩

theorem exeB_eq (E : List Evt) (x : Exe) : exeB E x = (fromB E E x.from' && (x.order.length == 3 && (List.range' 0 3).all (okOrd E x))) := by
  unfold exeB
  rw [fromB_eq E E 0]
  generalize (x.from'.length == (rdsX E 0).length) = a
  generalize (x.order.length == 3) = b
  generalize ((rdsX E 0).zip x.from').all (okFrom E) = c
  generalize (List.range' 0 3).all (okOrd E x) = d
  cases a <;> cases b <;> cases c <;> cases d <;> rfl

set_option maxHeartbeats 1000000 in
theorem has_any (E : List Evt) (hE : E.length ≤ 96) (x : Exe) (v vf vo : Value) (w : World) (h : Ev4At w v E) (hx : ExeAt w vf vo x) :
    Calls Tryz.prog 53 #[v, .agg #[vf, vo]] w fun e w' => e = .returned (.bool (exeB E x)) ∧ Below w.heap.size w w' := by
  have HF : Hid (∀ w', Below w.heap.size w w' → Calls Tryz.prog 97 #[v, vf] w' fun e w'' => e = .returned (.bool (fromB E E x.from')) ∧ Below w'.heap.size w' w'') := fun w' hb => hasFrom_any E hE x.from' v vf w' (h.keep hb) (hx.f.keep hb)
  have HO : Hid (∀ w', Below w.heap.size w w' → Calls Tryz.prog 98 #[v, vo] w' fun e w'' => e = .returned (.bool (x.order.length == 3 && (List.range' 0 3).all (okOrd E x))) ∧ Below w'.heap.size w' w'') := fun w' hb => hasOrder_any E hE x v vo w' (h.keep hb) (hx.o.keep hb)
  have HB : Hid (exeB E x = (fromB E E x.from' && (x.order.length == 3 && (List.range' 0 3).all (okOrd E x)))) := exeB_eq E x
  generalize exeB E x = B at HB ⊢
  generalize fromB E E x.from' = FB at HF HB
  generalize (x.order.length == 3 && (List.range' 0 3).all (okOrd E x)) = OB at HO HB
  obtain ⟨aof, capf, hvf⟩ := hx.f.form
  obtain ⟨aoo, bo, offo, capo, hvo, _⟩ := hx.o
  obtain ⟨ao, b, off, cap, hv, _⟩ := h
  subst hv hvf hvo
  clear hx
  go_enter Tryz.func53, Tryz.ntmps53
  go_wp2_with fail
  have hba := below_alloc w (.cells #[.slice aof x.from'.length capf, .slice aoo x.order.length capo] 29)
  refine (HF.out _ hba).mono ?_
  rintro e w2 ⟨rfl, hb2⟩
  have hbw2 := below_more hba hb2
  have e1 := keep_cell hb2 (b := w.heap.size) (off := 1) (u := .slice aoo x.order.length capo) (by simp)
  cases FB
  · go_wp2_with fail
    go_ret
    exact ⟨by rw [HB.out]; rfl, hbw2⟩
  · go_wp2_with fail
    refine (HO.out w2 hbw2).mono ?_
    rintro e w3 ⟨rfl, hb3⟩
    go_wp2_with fail
    go_ret
    exact ⟨by rw [HB.out, Bool.true_and]; rfl, below_more hbw2 hb3⟩

end Go.Proofs.YtomijmikkbhgmaaGreat

namespace Go.Proofs.YtomijmikkbhgmaaGreat

theorem wrs_iff {E : List Evt} {loc a : Int} : a ∈ wrs E 0 loc ↔ ∃ (i : Nat) (y : Evt), E[i]? = some y ∧ a = (i : Int) ∧ y.kind = 1 ∧ y.loc = loc := by
  constructor
  · intro h
    obtain ⟨i, x, h1, h2, h3, h4⟩ := wrs_mem h
    exact ⟨i, x, h1, by rw [h2]; simp, h3, h4⟩
  · rintro ⟨i, y, h1, rfl, h3, h4⟩
    have hc := wrs_count (k := 0) (loc := loc) h1
    rw [Nat.zero_add, h3, h4] at hc
    simp at hc
    exact List.count_pos_iff.1 (by omega)

theorem wrs_nodup (E : List Evt) (loc : Int) : (wrs E 0 loc).Nodup := (wrs_sorted E 0 loc).imp fun h => by omega

/-- As many, and none is missing: then there are no others, and none stands twice. -/
theorem shuf_spec {l m : List Int} (hm : m.Nodup) (h : shufB l m = true) : l.Nodup ∧ ∀ a, a ∈ l ↔ a ∈ m := by
  unfold shufB at h
  simp only [Bool.and_eq_true, beq_iff_eq, List.all_eq_true] at h
  obtain ⟨h1, h2⟩ := h
  have hsub : ∀ x ∈ m, x ∈ l := fun x hx => by simpa using h2 x hx
  have key : ∀ (l m : List Int), m.Nodup → l.length = m.length → (∀ x ∈ m, x ∈ l) → l.Nodup ∧ ∀ a, a ∈ l → a ∈ m := by
    intro l
    induction l with
    | nil => intro m _ _ _; exact ⟨List.nodup_nil, fun a h => by cases h⟩
    | cons x l ih =>
      intro m hm hl hs
      have hxm : x ∈ m := by
        refine Classical.byContradiction fun hx => ?_
        have h3 : ∀ z ∈ m, z ∈ l := fun z hz => by
          rcases List.mem_cons.1 (hs z hz) with rfl | h
          · exact absurd hz hx
          · exact h
        have := nodup_le hm h3
        simp at hl; omega
      have hm2 : (m.erase x).Nodup := hm.erase x
      have hl2 : l.length = (m.erase x).length := by rw [List.length_erase_of_mem hxm]; simp at hl; omega
      have hs2 : ∀ z ∈ m.erase x, z ∈ l := fun z hz => by
        have hzx : z ≠ x := fun e => by
          subst e
          exact (List.Nodup.not_mem_erase hm) hz
        rcases List.mem_cons.1 (hs z (List.mem_of_mem_erase hz)) with rfl | h
        · exact absurd rfl hzx
        · exact h
      obtain ⟨k1, k2⟩ := ih (m.erase x) hm2 hl2 hs2
      refine ⟨List.nodup_cons.2 ⟨fun hx => (List.Nodup.not_mem_erase hm) (k2 x hx), k1⟩, fun a ha => ?_⟩
      rcases List.mem_cons.1 ha with rfl | ha
      · exact hxm
      · exact List.mem_of_mem_erase (k2 a ha)
  obtain ⟨k1, k2⟩ := key l m hm h1 hsub
  exact ⟨k1, fun a => ⟨k2 a, hsub a⟩⟩

/-- What an execution is. -/
structure IsEx (E : List Evt) (x : Exe) : Prop where
  f : x.from'.length = (rdsX E 0).length
  fw : ∀ q ∈ (rdsX E 0).zip x.from', q.2 = -1 ∨ q.2 ∈ wrs E 0 q.1.2.loc
  o3 : x.order.length = 3
  od : ∀ (j : Nat) (l : List Int), x.order[j]? = some l → l.Nodup ∧ ∀ a, a ∈ l ↔ a ∈ wrs E 0 (j : Int)

theorem isEx_of {E : List Evt} {x : Exe} (h : exeB E x = true) : IsEx E x := by
  unfold exeB at h
  simp only [Bool.and_eq_true, beq_iff_eq, List.all_eq_true] at h
  obtain ⟨⟨h1, h2⟩, h3, h4⟩ := h
  refine ⟨h1, fun q hq => ?_, h2, fun j l hl => ?_⟩
  · have := h3 q hq
    unfold okFrom at this
    simp only [Bool.or_eq_true, List.contains_iff_mem, beq_iff_eq] at this
    rcases this with h | h
    · exact .inr h
    · exact .inl h
  · have hj : j < 3 := by have := (List.getElem?_eq_some_iff.1 hl).1; omega
    have := h4 j (by rw [List.mem_range'_1]; omega)
    unfold okOrd at this
    rw [List.getD, hl] at this
    exact shuf_spec (wrs_nodup E _) this

theorem IsEx.len {E : List Evt} (hE : E.length ≤ 96) {x : Exe} (h : IsEx E x) {j : Nat} {l : List Int} (hl : x.order[j]? = some l) : l.length ≤ 96 := by
  obtain ⟨h1, h2⟩ := h.od j l hl
  have := nodup_le h1 (fun a ha => (h2 a).1 ha)
  have := wrs_len E 0 (j : Int)
  omega

theorem IsEx.xok {E : List Evt} (hE : E.length ≤ 96) (hloc : ∀ y ∈ E, locB y.loc = true) {x : Exe} (h : IsEx E x) : XOk E x := by
  have hw : ∀ {a loc : Int}, a ∈ wrs E 0 loc → ∃ i : Nat, i < E.length ∧ a = (i : Int) := fun ha => by
    obtain ⟨i, y, h1, h2, _⟩ := wrs_iff.1 ha
    exact ⟨i, (List.getElem?_eq_some_iff.1 h1).1, h2⟩
  have hl : ∀ l ∈ x.order, ∀ a ∈ l, ∃ i : Nat, i < E.length ∧ a = (i : Int) := fun l hl a ha => by
    obtain ⟨j, hj⟩ := List.mem_iff_getElem?.1 hl
    exact hw (((h.od j l hj).2 a).1 ha)
  refine ⟨h.f, h.o3, fun l hl => ?_, fun p hp => ?_⟩
  · obtain ⟨j, hj⟩ := List.mem_iff_getElem?.1 hl
    exact h.len hE hj
  · unfold arwL at hp
    rcases List.mem_append.1 hp with hp | hp
    · obtain ⟨q, hq, hp⟩ := List.mem_flatMap.1 hp
      obtain ⟨⟨r, y⟩, f⟩ := q
      have hr := rdsX_get (List.of_mem_zip hq).1
      have hrE : r < E.length := by have := (List.getElem?_eq_some_iff.1 hr.2).1; simpa using this
      unfold arw1 at hp
      rcases List.mem_append.1 hp with hp | hp
      · simp only at hp
        split at hp
        · cases hp
        · rename_i hf
          simp at hp
          subst hp
          rcases h.fw _ hq with h1 | h1
          · simp only at h1; rw [h1] at hf; simp at hf
          · obtain ⟨i, hi, e⟩ := hw h1
            simp only at e
            exact ⟨i, r, hi, hrE, by rw [e]⟩
      · obtain ⟨h1, h2⟩ := fanL_mem.1 hp
        have h3 := restL_mem h2
        have hyl := hloc y (List.mem_of_getElem? hr.2)
        obtain ⟨m, _, _, hog⟩ := ordAt_get h.o3 hyl
        obtain ⟨i, hi, e⟩ := hl _ (List.mem_of_getElem? hog) _ h3
        exact ⟨r, i, hrE, hi, by rw [← e, ← h1]⟩
    · obtain ⟨l, hlm, hp⟩ := List.mem_flatMap.1 hp
      obtain ⟨h1, h2⟩ := tailsL_mem hp
      obtain ⟨i, hi, e1⟩ := hl l hlm _ h1
      obtain ⟨k, hk, e2⟩ := hl l hlm _ h2
      exact ⟨i, k, hi, hk, by rw [← e1, ← e2]⟩

/-- The Reads with their sources, by their numbers. -/
theorem src_zip (E : List Evt) (F : List Int) (i : Nat) (hF : F.length = (rdsX E i).length) (r : Nat) (y : Evt) (f : Int) :
    ((r, y), f) ∈ (rdsX E i).zip F ↔ i ≤ r ∧ E[r - i]? = some y ∧ y.kind = 0 ∧ (srcL E F)[r - i]? = some f := by
  induction E generalizing F i with
  | nil => simp [rdsX]
  | cons x E ih =>
    have shift : ∀ {α : Type} (a : α) (l : List α) (b : α), i + 1 ≤ r → ((a :: l)[r - i]? = some b ↔ l[r - (i + 1)]? = some b) := fun a l b h => by
      rw [show r - i = (r - (i + 1)) + 1 by omega]; simp
    cases hk : x.kind == 0
    · rw [rdsX_mis hk] at hF ⊢
      rw [ih F (i + 1) hF, srcL_not hk]
      constructor
      · rintro ⟨h1, h2, h3, h4⟩
        exact ⟨by omega, (shift _ _ _ h1).2 h2, h3, (shift _ _ _ h1).2 h4⟩
      · rintro ⟨h1, h2, h3, h4⟩
        by_cases e : r = i
        · subst e
          rw [Nat.sub_self] at h2
          simp at h2
          subst h2
          rw [h3] at hk; simp at hk
        · have h1' : i + 1 ≤ r := by omega
          exact ⟨h1', (shift _ _ _ h1').1 h2, h3, (shift _ _ _ h1').1 h4⟩
    · rw [rdsX_hit hk] at hF ⊢
      cases F with
      | nil => simp at hF
      | cons f0 F =>
        rw [List.zip_cons_cons, List.mem_cons, ih F (i + 1) (by simpa using hF), srcL_read hk]
        constructor
        · rintro (e | ⟨h1, h2, h3, h4⟩)
          · simp only [Prod.mk.injEq] at e
            obtain ⟨⟨rfl, rfl⟩, rfl⟩ := e
            exact ⟨Nat.le_refl _, by simp, by simpa using hk, by simp⟩
          · exact ⟨by omega, (shift _ _ _ h1).2 h2, h3, (shift _ _ _ h1).2 h4⟩
        · rintro ⟨h1, h2, h3, h4⟩
          by_cases e : r = i
          · subst e
            rw [Nat.sub_self] at h2 h4
            simp at h2 h4
            subst h2 h4
            exact .inl rfl
          · have h1' : i + 1 ≤ r := by omega
            exact .inr ⟨h1', (shift _ _ _ h1').1 h2, h3, (shift _ _ _ h1').1 h4⟩

theorem src_other (E : List Evt) (F : List Int) (b : Nat) (y : Evt) (h : E[b]? = some y) (hk : y.kind ≠ 0) : (srcL E F)[b]? = some (-1) := by
  induction E generalizing F b with
  | nil => simp at h
  | cons x E ih =>
    cases b with
    | zero =>
      simp at h
      subst h
      rw [srcL_not (by simpa using hk)]
      rfl
    | succ b =>
      have h' : E[b]? = some y := by simpa using h
      cases hx : x.kind == 0
      · rw [srcL_not hx]; simpa using ih F b h'
      · cases F with
        | nil => rw [srcL_out hx]; simpa using ih [] b h'
        | cons f F => rw [srcL_read hx]; simpa using ih F b h'

end Go.Proofs.YtomijmikkbhgmaaGreat

namespace Go.Proofs.YtomijmikkbhgmaaGreat

theorem ordG_not {n : Nat} {L : List (List Int)} {a : Nat} (h : ∀ l ∈ L, (a : Int) ∉ l) (g : Nat → Int) : ordG n L g a = g a := by
  induction L generalizing g with
  | nil => rfl
  | cons l L ih =>
    rw [ordG, ih (fun m hm => h m (List.mem_cons_of_mem _ hm)), wrG_not (h l (List.mem_cons_self ..))]

theorem ordG_at {n : Nat} {L : List (List Int)} {a j q : Nat} {l : List Int} (ha : a < n) (hj : L[j]? = some l) (hnd : l.Nodup) (hq : l[q]? = some (a : Int)) (ho : ∀ k l', k ≠ j → L[k]? = some l' → (a : Int) ∉ l') (g : Nat → Int) : ordG n L g a = ((q + 1 : Nat) : Int) := by
  induction L generalizing j g with
  | nil => simp at hj
  | cons m L ih =>
    rw [ordG]
    cases j with
    | zero =>
      simp at hj
      subst hj
      rw [ordG_not (fun l' hl' => ?_), wrG_at hnd ha hq]
      · omega
      · obtain ⟨k, hk⟩ := List.mem_iff_getElem?.1 hl'
        exact ho (k + 1) l' (by omega) (by simpa using hk)
    | succ j => exact ih (by simpa using hj) (fun k l' hk hl' => ho (k + 1) l' (by omega) (by simpa using hl')) _

theorem restG_drop {l : List Int} (hnd : l.Nodup) {q : Nat} {f : Int} (h : l[q]? = some f) : restG l f = l.drop (q + 1) := by
  induction l generalizing q with
  | nil => simp at h
  | cons x l ih =>
    obtain ⟨h1, h2⟩ := List.nodup_cons.1 hnd
    unfold restG
    cases q with
    | zero => simp at h; subst h; rw [if_pos (by simp)]; rfl
    | succ q =>
      have h' : l[q]? = some f := by simpa using h
      have hne : x ≠ f := fun e => h1 (by rw [e]; exact List.mem_of_getElem? h')
      rw [if_neg (by simpa using hne), ih h2 h']
      rfl

theorem pos_eq {l : List Int} (hnd : l.Nodup) {p q : Nat} {a : Int} (hp : l[p]? = some a) (hq : l[q]? = some a) : p = q := by
  obtain ⟨h1, e1⟩ := List.getElem?_eq_some_iff.1 hp
  obtain ⟨h2, e2⟩ := List.getElem?_eq_some_iff.1 hq
  rcases Nat.lt_trichotomy p q with h | h | h
  · exact absurd (e1.trans e2.symm) (List.pairwise_iff_getElem.1 hnd p q h1 h2 h)
  · exact h
  · exact absurd (e2.trans e1.symm) (List.pairwise_iff_getElem.1 hnd q p h2 h1 h)

theorem drop_mem {l : List Int} (hnd : l.Nodup) {k q : Nat} {b : Int} (hq : l[q]? = some b) : b ∈ l.drop k ↔ k ≤ q := by
  constructor
  · intro h
    obtain ⟨i, hi⟩ := List.mem_iff_getElem?.1 h
    rw [List.getElem?_drop] at hi
    have := pos_eq hnd hi hq
    omega
  · intro h
    refine List.mem_iff_getElem?.2 ⟨q - k, ?_⟩
    rw [List.getElem?_drop, show k + (q - k) = q by omega]; exact hq

theorem tails_iff {l : List Int} (hnd : l.Nodup) {p q : Nat} {a b : Int} (hp : l[p]? = some a) (hq : l[q]? = some b) : (a, b) ∈ tailsL l ↔ p < q := by
  induction l generalizing p q with
  | nil => simp at hp
  | cons c l ih =>
    obtain ⟨h1, h2⟩ := List.nodup_cons.1 hnd
    unfold tailsL
    rw [List.mem_append, fanL_mem]
    cases p with
    | zero =>
      have hac : c = a := by simpa using hp
      subst hac
      cases q with
      | zero =>
        have hbc : c = b := by simpa using hq
        subst hbc
        constructor
        · rintro (⟨_, h⟩ | h)
          · exact absurd h h1
          · exact absurd (tailsL_mem h).1 h1
        · intro h; omega
      | succ q =>
        have hb : l[q]? = some b := by simpa using hq
        exact ⟨fun _ => by omega, fun _ => .inl ⟨rfl, List.mem_of_getElem? hb⟩⟩
    | succ p =>
      have ha : l[p]? = some a := by simpa using hp
      have hac : a ≠ c := fun e => h1 (by rw [← e]; exact List.mem_of_getElem? ha)
      cases q with
      | zero =>
        have hbc : c = b := by simpa using hq
        subst hbc
        constructor
        · rintro (⟨h, _⟩ | h)
          · exact absurd h hac
          · exact absurd (tailsL_mem h).2 h1
        · intro h; omega
      | succ q =>
        have hb : l[q]? = some b := by simpa using hq
        constructor
        · rintro (⟨h, _⟩ | h)
          · exact absurd h hac
          · have := (ih h2 ha hb).1 h; omega
        · intro h
          exact .inr ((ih h2 ha hb).2 (by omega))

/-- What the sources and the ranks of an execution are. -/
structure Ranks (E : List Evt) (x : Exe) (S R : Nat → Int) : Prop where
  other : ∀ (b : Nat) (y : Evt), E[b]? = some y → y.kind ≠ 0 → S b = -1
  zip : ∀ (r : Nat) (y : Evt) (f : Int), ((r, y), f) ∈ (rdsX E 0).zip x.from' ↔ E[r]? = some y ∧ y.kind = 0 ∧ S r = f
  read : ∀ (r : Nat) (y : Evt), E[r]? = some y → y.kind = 0 → (S r = -1 ∧ R r = 0) ∨ ∃ a q : Nat, S r = (a : Int) ∧ a < E.length ∧ (ordAt x y.loc)[q]? = some (a : Int) ∧ R r = ((q + 1 : Nat) : Int)
  write : ∀ (b : Nat) (y : Evt), E[b]? = some y → y.kind = 1 → ∃ q : Nat, (ordAt x y.loc)[q]? = some (b : Int) ∧ R b = ((q + 1 : Nat) : Int)
  bound : ∀ i, i < E.length → 0 ≤ R i ∧ R i ≤ 1000
  nd : ∀ loc, locB loc = true → (ordAt x loc).Nodup ∧ ordAt x loc ∈ x.order
  mem : ∀ loc, locB loc = true → ∀ a, a ∈ ordAt x loc ↔ ∃ (i : Nat) (y : Evt), E[i]? = some y ∧ a = (i : Int) ∧ y.kind = 1 ∧ y.loc = loc
  ord : ∀ l ∈ x.order, ∃ loc, locB loc = true ∧ l = ordAt x loc

theorem IsEx.ranks {E : List Evt} (hE : E.length ≤ 96) (hloc : ∀ y ∈ E, locB y.loc = true) {x : Exe} (h : IsEx E x) : Ranks E x (fun j => (srcL E x.from').getD j 0) (rankG E.length (srcL E x.from') x.order) := by
  generalize hSL : srcL E x.from' = SL
  have hlen : SL.length = E.length := by rw [← hSL]; exact srcL_len _ _
  have hget : ∀ {b : Nat} {v : Int}, SL[b]? = some v → SL.getD b 0 = v := fun hb => by rw [List.getD, hb]; rfl
  have hother : ∀ (b : Nat) (y : Evt), E[b]? = some y → y.kind ≠ 0 → SL.getD b 0 = -1 := fun b y hb hk => hget (by rw [← hSL]; exact src_other E x.from' b y hb hk)
  have hzip : ∀ (r : Nat) (y : Evt) (f : Int), ((r, y), f) ∈ (rdsX E 0).zip x.from' ↔ E[r]? = some y ∧ y.kind = 0 ∧ SL.getD r 0 = f := fun r y f => by
    rw [src_zip E x.from' 0 h.f r y f, Nat.sub_zero, hSL]
    constructor
    · rintro ⟨_, h2, h3, h4⟩; exact ⟨h2, h3, hget h4⟩
    · rintro ⟨h2, h3, h4⟩
      refine ⟨Nat.zero_le _, h2, h3, ?_⟩
      have hr : r < SL.length := by rw [hlen]; exact (List.getElem?_eq_some_iff.1 h2).1
      rw [List.getElem?_eq_getElem hr]
      have := hget (List.getElem?_eq_getElem hr)
      rw [h4] at this
      rw [this]
  have hlocs : ∀ loc, locB loc = true → ∃ m : Nat, loc = (m : Int) ∧ m < 3 ∧ x.order[m]? = some (ordAt x loc) := fun loc hl => ordAt_get h.o3 hl
  have hmem : ∀ loc, locB loc = true → ∀ a, a ∈ ordAt x loc ↔ ∃ (i : Nat) (y : Evt), E[i]? = some y ∧ a = (i : Int) ∧ y.kind = 1 ∧ y.loc = loc := fun loc hl a => by
    obtain ⟨m, rfl, _, hm⟩ := hlocs loc hl
    rw [(h.od m _ hm).2 a, wrs_iff]
  have hnd : ∀ loc, locB loc = true → (ordAt x loc).Nodup ∧ ordAt x loc ∈ x.order := fun loc hl => by
    obtain ⟨m, _, _, hm⟩ := hlocs loc hl
    exact ⟨(h.od m _ hm).1, List.mem_of_getElem? hm⟩
  have hg1w : ∀ (b : Nat) (y : Evt), E[b]? = some y → y.kind = 1 → ∃ q : Nat, (ordAt x y.loc)[q]? = some (b : Int) ∧ ordG E.length x.order (fun _ => 0) b = ((q + 1 : Nat) : Int) := fun b y hb hk => by
    have hl := hloc y (List.mem_of_getElem? hb)
    obtain ⟨m, hm1, _, hm⟩ := hlocs y.loc hl
    obtain ⟨q, hq⟩ := List.mem_iff_getElem?.1 ((hmem y.loc hl (b : Int)).2 ⟨b, y, hb, rfl, hk, rfl⟩)
    refine ⟨q, hq, ordG_at (List.getElem?_eq_some_iff.1 hb).1 hm (hnd y.loc hl).1 hq (fun k l' hkm hl' hin => ?_) _⟩
    obtain ⟨i, z, hz1, hz2, _, hz4⟩ := wrs_iff.1 (((h.od k l' hl').2 _).1 hin)
    have : i = b := by omega
    subst this
    rw [hb] at hz1
    cases hz1
    rw [hm1] at hz4
    omega
  have hg1n : ∀ (b : Nat) (y : Evt), E[b]? = some y → y.kind ≠ 1 → ordG E.length x.order (fun _ => 0) b = 0 := fun b y hb hk => by
    refine ordG_not (fun l hl hin => ?_) _
    obtain ⟨k, hk'⟩ := List.mem_iff_getElem?.1 hl
    obtain ⟨i, z, hz1, hz2, hz3, _⟩ := wrs_iff.1 (((h.od k l hk').2 _).1 hin)
    have : i = b := by omega
    subst this
    rw [hb] at hz1
    cases hz1
    exact hk hz3
  have hsrc : ∀ (r : Nat) (y : Evt), E[r]? = some y → y.kind = 0 → SL.getD r 0 = -1 ∨ ∃ (a : Nat) (z : Evt), SL.getD r 0 = (a : Int) ∧ E[a]? = some z ∧ z.kind = 1 ∧ z.loc = y.loc := fun r y hr hk => by
    rcases h.fw _ ((hzip r y _).2 ⟨hr, hk, rfl⟩) with h1 | h1
    · exact .inl h1
    · obtain ⟨i, z, z1, z2, z3, z4⟩ := wrs_iff.1 h1
      exact .inr ⟨i, z, z2, z1, z3, z4⟩
  have hneg : inN E.length (-1) = false := by unfold inN; simp
  have hH : ∀ j, j < E.length → inN E.length (SL.getD j 0) = true → inN E.length (SL.getD (SL.getD j 0).toNat 0) = false := fun j hj hin => by
    obtain ⟨y, hy⟩ : ∃ y, E[j]? = some y := ⟨E[j], List.getElem?_eq_getElem hj⟩
    by_cases hk : y.kind = 0
    · rcases hsrc j y hy hk with h1 | ⟨a, z, z1, z2, z3, _⟩
      · rw [h1, hneg] at hin; cases hin
      · rw [z1, Int.toNat_natCast, hother a z z2 (by omega)]; exact hneg
    · rw [hother j y hy hk, hneg] at hin; cases hin
  have hR : ∀ j, j < E.length → rankG E.length SL x.order j = if inN E.length (SL.getD j 0) = true then ordG E.length x.order (fun _ => 0) (SL.getD j 0).toNat else ordG E.length x.order (fun _ => 0) j := fun j hj => by
    unfold rankG
    have := rdG_all hlen hH (ordG E.length x.order (fun _ => 0)) 0 (Nat.zero_le _) _ (fun j _ => by rw [if_neg (by omega)]) j hj
    simpa using this
  have hread : ∀ (r : Nat) (y : Evt), E[r]? = some y → y.kind = 0 → (SL.getD r 0 = -1 ∧ rankG E.length SL x.order r = 0) ∨ ∃ a q : Nat, SL.getD r 0 = (a : Int) ∧ a < E.length ∧ (ordAt x y.loc)[q]? = some (a : Int) ∧ rankG E.length SL x.order r = ((q + 1 : Nat) : Int) := fun r y hr hk => by
    have hrl := (List.getElem?_eq_some_iff.1 hr).1
    rcases hsrc r y hr hk with h1 | ⟨a, z, z1, z2, z3, z4⟩
    · refine .inl ⟨h1, ?_⟩
      rw [hR r hrl, h1, if_neg (by rw [hneg]; simp)]
      exact hg1n r y hr (by omega)
    · have hal := (List.getElem?_eq_some_iff.1 z2).1
      obtain ⟨q, q1, q2⟩ := hg1w a z z2 z3
      rw [z4] at q1
      refine .inr ⟨a, q, z1, hal, q1, ?_⟩
      rw [hR r hrl, z1, if_pos (inN_yes hal), Int.toNat_natCast, q2]
  have hwrite : ∀ (b : Nat) (y : Evt), E[b]? = some y → y.kind = 1 → ∃ q : Nat, (ordAt x y.loc)[q]? = some (b : Int) ∧ rankG E.length SL x.order b = ((q + 1 : Nat) : Int) := fun b y hb hk => by
    obtain ⟨q, q1, q2⟩ := hg1w b y hb hk
    refine ⟨q, q1, ?_⟩
    rw [hR b (List.getElem?_eq_some_iff.1 hb).1, hother b y hb (by omega), if_neg (by rw [hneg]; simp), q2]
  have hol : ∀ loc, locB loc = true → (ordAt x loc).length ≤ 96 := fun loc hl => by
    obtain ⟨m, _, _, hm⟩ := hlocs loc hl
    exact h.len hE hm
  refine ⟨hother, hzip, hread, hwrite, fun i hi => ?_, hnd, hmem, fun l hl => ?_⟩
  · obtain ⟨y, hy⟩ : ∃ y, E[i]? = some y := ⟨E[i], List.getElem?_eq_getElem hi⟩
    have hyl := hol y.loc (hloc y (List.mem_of_getElem? hy))
    by_cases hk : y.kind = 0
    · rcases hread i y hy hk with ⟨_, h1⟩ | ⟨a, q, _, _, q1, q2⟩
      · rw [h1]; omega
      · have := (List.getElem?_eq_some_iff.1 q1).1
        rw [q2]; omega
    · by_cases hk1 : y.kind = 1
      · obtain ⟨q, q1, q2⟩ := hwrite i y hy hk1
        have := (List.getElem?_eq_some_iff.1 q1).1
        rw [q2]; omega
      · rw [hR i hi, hother i y hy hk, if_neg (by rw [hneg]; simp), hg1n i y hy hk1]; omega
  · obtain ⟨j, hj⟩ := List.mem_iff_getElem?.1 hl
    have hj3 : j < 3 := by have := (List.getElem?_eq_some_iff.1 hj).1; have := h.o3; omega
    refine ⟨(j : Int), by unfold locB; simp; omega, ?_⟩
    unfold ordAt
    rw [Int.toNat_natCast, List.getD, hj]; rfl

theorem exec_iff {E : List Evt} (hloc : ∀ y ∈ E, locB y.loc = true) {x : Exe} {S R : Nat → Int} (h : Ranks E x S R) {a b : Nat} (ha : a < E.length) (hb : b < E.length) :
    ((a : Int), (b : Int)) ∈ allS (exF E R) S E.length E.length ↔ ((a : Int), (b : Int)) ∈ arwL E x := by
  obtain ⟨ya, hya⟩ : ∃ y, E[a]? = some y := ⟨E[a], List.getElem?_eq_getElem ha⟩
  obtain ⟨yb, hyb⟩ : ∃ y, E[b]? = some y := ⟨E[b], List.getElem?_eq_getElem hb⟩
  have hla := hloc ya (List.mem_of_getElem? hya)
  have hlb := hloc yb (List.mem_of_getElem? hyb)
  rw [allS_mem]
  unfold arwL
  rw [List.mem_append, List.mem_flatMap, List.mem_flatMap]
  have hex : exF E R a b = (yb.kind == 1 && (sameB ya yb && decide (R a < R b))) := pairB_get hya hyb _
  constructor
  · rintro ⟨_, h1 | ⟨_, h1⟩⟩
    · by_cases hk : yb.kind = 0
      · refine .inl ⟨((b, yb), (a : Int)), (h.zip b yb _).2 ⟨hyb, hk, h1⟩, ?_⟩
        unfold arw1
        refine List.mem_append_left _ ?_
        simp only
        rw [if_neg (by first | (simp; done) | (simp; omega))]
        simp
      · have := h.other b yb hyb hk
        rw [this] at h1; omega
    · rw [hex] at h1
      unfold sameB at h1
      simp only [Bool.and_eq_true, beq_iff_eq, decide_eq_true_eq] at h1
      obtain ⟨hk, ⟨⟨hma, _⟩, hloc2⟩, hlt⟩ := h1
      obtain ⟨qb, q1, q2⟩ := h.write b yb hyb hk
      obtain ⟨hnd, hin⟩ := h.nd yb.loc hlb
      unfold memB at hma
      simp only [Bool.or_eq_true, beq_iff_eq] at hma
      rcases hma with hka | hka
      · refine .inl ⟨((a, ya), S a), (h.zip a ya _).2 ⟨hya, hka, rfl⟩, ?_⟩
        unfold arw1
        refine List.mem_append_right _ (fanL_mem.2 ⟨rfl, ?_⟩)
        simp only
        rw [hloc2]
        rcases h.read a ya hya hka with ⟨s1, _⟩ | ⟨f, qf, s1, _, s3, s4⟩
        · rw [s1]
          unfold restL
          rw [if_pos (by simp)]
          exact List.mem_of_getElem? q1
        · rw [s1]
          unfold restL
          rw [if_neg (by first | (simp; done) | (simp; omega))]
          rw [hloc2] at s3
          rw [restG_drop hnd s3, drop_mem hnd q1]
          rw [s4, q2] at hlt
          omega
      · obtain ⟨qa, p1, p2⟩ := h.write a ya hya hka
        rw [hloc2] at p1
        refine .inr ⟨ordAt x yb.loc, hin, ?_⟩
        rw [tails_iff hnd p1 q1]
        rw [p2, q2] at hlt
        omega
  · rintro (⟨⟨⟨r, y⟩, f⟩, hq, hp⟩ | ⟨l, hl, hp⟩)
    · obtain ⟨z1, z2, z3⟩ := (h.zip r y f).1 hq
      unfold arw1 at hp
      rcases List.mem_append.1 hp with hp | hp
      · simp only at hp
        split at hp
        · cases hp
        · simp at hp
          obtain ⟨e1, e2⟩ := hp
          have hbr : b = r := by omega
          subst hbr
          exact ⟨hb, .inl (by rw [z3, ← e1])⟩
      · obtain ⟨e1, e2⟩ := fanL_mem.1 hp
        simp only at e1 e2
        have har : a = r := by omega
        subst har
        rw [hya] at z1
        cases z1
        refine ⟨hb, .inr ⟨ha, ?_⟩⟩
        obtain ⟨hnd, _⟩ := h.nd ya.loc hla
        have hbl := restL_mem e2
        obtain ⟨i, z, i1, i2, i3, i4⟩ := (h.mem ya.loc hla _).1 hbl
        have hib : i = b := by omega
        subst hib
        rw [hyb] at i1
        cases i1
        obtain ⟨qb, q1, q2⟩ := h.write i yb hyb i3
        rw [hex]
        unfold sameB memB
        rw [i3, z2, i4]
        simp only [Bool.and_eq_true, decide_eq_true_eq]
        refine ⟨by simp, ⟨by simp, ?_⟩⟩
        rw [i4] at q1
        rcases h.read a ya hya z2 with ⟨s1, s2⟩ | ⟨g, qf, s1, _, s3, s4⟩
        · rw [s2, q2]; omega
        · rw [z3] at s1
          rw [s1] at e2
          unfold restL at e2
          rw [if_neg (by first | (simp; done) | (simp; omega)), restG_drop hnd s3, drop_mem hnd q1] at e2
          rw [s4, q2]
          omega
    · obtain ⟨loc, hl1, rfl⟩ := h.ord l hl
      obtain ⟨hnd, _⟩ := h.nd loc hl1
      obtain ⟨m1, m2⟩ := tailsL_mem hp
      obtain ⟨i, z, i1, i2, i3, i4⟩ := (h.mem loc hl1 _).1 m1
      obtain ⟨j, z', j1, j2, j3, j4⟩ := (h.mem loc hl1 _).1 m2
      simp only at i2 j2
      have hia : i = a := by omega
      have hjb : j = b := by omega
      subst hia hjb
      rw [hya] at i1
      cases i1
      rw [hyb] at j1
      cases j1
      obtain ⟨qa, p1, p2⟩ := h.write i ya hya i3
      obtain ⟨qb, q1, q2⟩ := h.write j yb hyb j3
      rw [i4] at p1
      rw [j4] at q1
      have hlt := (tails_iff hnd p1 q1).1 hp
      refine ⟨hb, .inr ⟨ha, ?_⟩⟩
      rw [hex]
      unfold sameB memB
      rw [i3, j3, i4, j4]
      simp only [Bool.and_eq_true, decide_eq_true_eq]
      refine ⟨by simp, ⟨by simp, ?_⟩⟩
      rw [p2, q2]; omega

end Go.Proofs.YtomijmikkbhgmaaGreat

namespace Go.Proofs.YtomijmikkbhgmaaGreat

theorem coh_same : cohP = cohQ := by
  funext i j a b
  unfold cohP cohQ sameB
  cases memB a.kind <;> cases memB b.kind <;> cases (a.thread == b.thread) <;> cases (a.loc == b.loc) <;> rfl

theorem mark_same (a b : Evt) : markB a b = (modB a b || mrkB a b) := by
  unfold markB modB mrkB
  generalize (a.kind == 2) = p1
  generalize (a.kind == 4) = p2
  generalize (a.kind == 5) = p3
  generalize (b.kind == 3) = p4
  generalize (b.kind == 4) = p5
  generalize (b.kind == 5) = p6
  generalize (a.kind == 0 && a.ins.mode == 1) = p7
  generalize (b.kind == 1 && b.ins.mode == 2) = p8
  cases p1 <;> cases p2 <;> cases p3 <;> cases p4 <;> cases p5 <;> cases p6 <;> cases p7 <;> cases p8 <;> rfl

theorem last_same {T : List (List Ins)} {E : List Evt} (hE : E = evsT T 0) {i j : Nat} {a b : Evt} (hij : i < j) (hi : E[i]? = some a) (hj : E[j]? = some b) : lastB E i j b = (swapB a b || cpyB E i j b) := by
  have hsw : SwOk E := by rw [hE]; exact swOk_T T 0
  have hs : swapB a b = true → b.ins.op = 3 ∧ b.kind = 1 ∧ j = i + 1 := by
    intro h
    unfold swapB at h
    simp only [Bool.and_eq_true, beq_iff_eq] at h
    obtain ⟨⟨⟨h1, h2⟩, h3⟩, h4⟩ := h
    obtain ⟨k1, k2, k3, _⟩ := hsw.s3 i j a b hij hi hj h1 h2 h3 h4
    exact ⟨by rw [k3]; exact k2, h4, k1⟩
  unfold lastB cpyB
  by_cases h1 : b.ins.op = 1
  · have hk : b.kind = 1 := copy_kind (T := T) (by rw [← hE]; exact List.mem_of_getElem? hj) h1
    have hns : swapB a b = false := by
      cases hh : swapB a b
      · rfl
      · have := (hs hh).1; omega
    rw [hns, h1, hk]
    simp only [beq_self_eq_true, Bool.true_and, Bool.false_or, if_true]
    rw [Bool.eq_iff_iff]
    simp only [beq_iff_eq]
    exact eq_comm
  · have hn1 : (b.ins.op == 1) = false := by simpa using h1
    rw [hn1]
    simp only [Bool.false_and, Bool.or_false, Bool.false_eq_true, if_false]
    rw [Bool.eq_iff_iff]
    simp only [Bool.and_eq_true, beq_iff_eq]
    constructor
    · rintro ⟨h2, h3, h4⟩
      obtain ⟨r, r1, r2⟩ := hsw.s2 j b hj h2 h3
      have hri : r = i := by omega
      subst hri
      rw [hi] at r2
      cases r2
      unfold swapB
      simp [h2]
    · intro h
      obtain ⟨k1, k2, k3⟩ := hs h
      exact ⟨k2, k1, by omega⟩

theorem kept_same {T : List (List Ins)} {E : List Evt} (hE : E = evsT T 0) {i j : Nat} (hij : i < j) : pairB E (keepP T E) i j = pairB E (keepQ T E) i j := by
  unfold pairB
  cases hi : E[i]? with
  | none => rfl
  | some a =>
    cases hj : E[j]? with
    | none => rfl
    | some b =>
      show keepP T E i j a b = keepQ T E i j a b
      unfold keepP keepQ keepB kepB
      rw [mark_same, last_same hE hij hi hj]
      generalize fenB (T.getD a.thread.toNat []) a b = p1
      generalize modB a b = p2
      generalize mrkB a b = p3
      generalize swapB a b = p4
      generalize cpyB E i j b = p5
      cases p1 <;> cases p2 <;> cases p3 <;> cases p4 <;> cases p5 <;> rfl

theorem torn_same {T : List (List Ins)} {E : List Evt} (hE : E = evsT T 0) (hloc : ∀ y ∈ E, locB y.loc = true) {x : Exe} {S R : Nat → Int} (h : Ranks E x S R) : tornB E x = tornQ (torQ E R) E.length := by
  have hsw : SwOk E := by rw [hE]; exact swOk_T T 0
  -- a Swap: its Read r, its Write r + 1
  have key : ∀ (r : Nat) (y z : Evt), E[r]? = some y → y.kind = 0 → E[r + 1]? = some z → z.kind = 1 → z.loc = y.loc → (headNe (restL (ordAt x y.loc) (S r)) ((r : Int) + 1) = true ↔ R (r + 1) ≠ R r + 1) := by
    intro r y z hr hk hz hzk hzl
    have hl := hloc y (List.mem_of_getElem? hr)
    obtain ⟨hnd, _⟩ := h.nd y.loc hl
    obtain ⟨q, q1, q2⟩ := h.write (r + 1) z hz hzk
    rw [hzl] at q1
    have hcast : ((r : Int) + 1) = ((r + 1 : Nat) : Int) := by omega
    rw [hcast]
    have hdrop : ∀ k : Nat, headNe ((ordAt x y.loc).drop k) ((r + 1 : Nat) : Int) = true ↔ q ≠ k := by
      intro k
      by_cases hkl : k < (ordAt x y.loc).length
      · rw [List.drop_eq_getElem_cons hkl]
        show ((ordAt x y.loc)[k] != ((r + 1 : Nat) : Int)) = true ↔ q ≠ k
        rw [bne_iff_ne]
        constructor
        · intro hne e
          subst e
          rw [List.getElem?_eq_getElem hkl] at q1
          exact hne (Option.some.inj q1)
        · intro hne e
          exact hne (pos_eq hnd q1 (by rw [List.getElem?_eq_getElem hkl, e]))
      · rw [List.drop_eq_nil_of_le (by omega)]
        have := (List.getElem?_eq_some_iff.1 q1).1
        exact ⟨fun _ => by omega, fun _ => rfl⟩
    rcases h.read r y hr hk with ⟨s1, s2⟩ | ⟨f, qf, s1, _, s3, s4⟩
    · rw [s1]
      unfold restL
      rw [if_pos (by simp)]
      have h0 := hdrop 0
      rw [List.drop_zero] at h0
      rw [h0, q2, s2]
      constructor <;> intro h <;> omega
    · rw [s1]
      unfold restL
      rw [if_neg (by first | (simp; done) | (simp; omega)), restG_drop hnd s3, hdrop (qf + 1), q2, s4]
      constructor <;> intro h <;> omega
  rw [Bool.eq_iff_iff]
  unfold tornB tornQ
  rw [List.any_eq_true, List.any_eq_true]
  constructor
  · rintro ⟨⟨⟨r, y⟩, f⟩, hq, ht⟩
    obtain ⟨z1, z2, z3⟩ := (h.zip r y f).1 hq
    unfold torn1 at ht
    simp only [Bool.and_eq_true, beq_iff_eq] at ht
    obtain ⟨ho, hh⟩ := ht
    have hs1 := hsw.s1 r y z1 z2 ho
    rw [← z3] at hh
    have hne := (key r y _ z1 z2 hs1 rfl rfl).1 hh
    refine ⟨r + 1, by rw [List.mem_range]; exact (List.getElem?_eq_some_iff.1 hs1).1, ?_⟩
    rw [List.any_eq_true]
    refine ⟨r, by simp, ?_⟩
    have : torQ E R r (r + 1) = (swapB y { y with kind := 1 } && (R (r + 1) != R r + 1)) := pairB_get z1 hs1 _
    rw [this]
    unfold swapB
    simp [z2]
    exact hne
  · rintro ⟨j, hj, ht⟩
    rw [List.any_eq_true] at ht
    obtain ⟨i, hi, ht⟩ := ht
    have hjl : j < E.length := by simpa using hj
    have hij : i < j := by simpa using hi
    obtain ⟨a, ha⟩ : ∃ y, E[i]? = some y := ⟨E[i], List.getElem?_eq_getElem (by omega)⟩
    obtain ⟨b, hb⟩ : ∃ y, E[j]? = some y := ⟨E[j], List.getElem?_eq_getElem hjl⟩
    have hq : torQ E R i j = (swapB a b && (R j != R i + 1)) := pairB_get ha hb _
    rw [hq] at ht
    unfold swapB at ht
    simp only [Bool.and_eq_true, beq_iff_eq, bne_iff_ne] at ht
    obtain ⟨⟨⟨⟨h1, h2⟩, h3⟩, h4⟩, h5⟩ := ht
    obtain ⟨k1, k2, k3, k4⟩ := hsw.s3 i j a b hij ha hb h1 h2 h3 h4
    subst k1
    refine ⟨((i, a), S i), (h.zip i a _).2 ⟨ha, h3, rfl⟩, ?_⟩
    unfold torn1
    simp only [Bool.and_eq_true, beq_iff_eq]
    exact ⟨k2, (key i a b ha h3 hb h4 k4).2 h5⟩

theorem JudIs.congr {P P' : Prop} {t t' : Bool} {Q Q' S : Prop} {r : Int} (h : JudIs P t Q S r) (hP : P ↔ P') (ht : t = t') (hQ : Q ↔ Q') : JudIs P' t' Q' S r := by
  have e1 : P = P' := propext hP
  have e2 : Q = Q' := propext hQ
  subst e1 e2 ht
  exact h

/-- What both judge by. -/
theorem judge_same {T : List (List Ins)} {E : List Evt} (hE : E = evsT T 0) (hl : E.length ≤ 96) (hloc : ∀ y ∈ E, locB y.loc = true) {x : Exe} (hx : IsEx E x) :
    (Cyc E.length (cohB E x) ↔ Cyc E.length (cohA E x)) ∧ tornQ (torQ E (rankG E.length (srcL E x.from') x.order)) E.length = tornB E x ∧ (Cyc E.length (kepQ T E x) ↔ Cyc E.length (kepA T E x)) := by
  have hr := hx.ranks hl hloc
  refine ⟨Cyc.iff fun a b ha hb => ?_, (torn_same hE hloc hr).symm, Cyc.iff fun a b ha hb => ?_⟩
  · unfold cohB cohA exQ
    rw [List.mem_append, List.mem_append, exec_iff hloc hr ha hb, allU_mem, allD_mem, coh_same]
  · unfold kepQ kepA exQ
    rw [List.mem_append, List.mem_append, exec_iff hloc hr ha hb, allU_mem, allD_mem]
    constructor
    · rintro (h | ⟨h1, h2, h3⟩)
      · exact .inl h
      · exact .inr ⟨h1, h2, by rw [kept_same hE h2]; exact h3⟩
    · rintro (h | ⟨h1, h2, h3⟩)
      · exact .inl h
      · exact .inr ⟨h1, h2, by rw [← kept_same hE h2]; exact h3⟩

theorem thoL_len (kd : Int) (E : List Evt) (i : Nat) : (thoL kd E i).length = cntK kd E := by
  induction E generalizing i with
  | nil => rfl
  | cons x E ih =>
    unfold cntK at ih ⊢
    cases h : x.kind == kd
    · rw [thoL_mis h, ih, List.filter_cons, h]; rfl
    · rw [thoL_hit h, List.length_cons, ih, List.filter_cons, h]; rfl

end Go.Proofs.YtomijmikkbhgmaaGreat
