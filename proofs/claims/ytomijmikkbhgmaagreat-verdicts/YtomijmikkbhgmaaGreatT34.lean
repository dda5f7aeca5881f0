import Derived.Test.YtomijmikkbhgmaaGreatT28
import Derived.Test.YtomijmikkbhgmaaGreatQf
import Derived.Test.YtomijmikkbhgmaaGreatLu
import Derived.Test.YtomijmikkbhgmaaGreatT25
import Derived.Test.YtomijmikkbhgmaaGreatT31
namespace Go.Proofs.YtomijmikkbhgmaaGreat
open Go.RowKit

theorem arw_cells {w : World} {v : Value} {A : List (Int × Int)} {ao : Option Addr} {b off cap : Nat} (h : SlAt w 2 ArwC v A ao b off cap) : ∀ ad, ao = some ad → ∀ j u, (A.flatMap arwV)[j]? = some u → w.cell? (ad.add j) = some u := by
  intro ad had j u hj
  have hne : A ≠ [] := by rintro rfl; simp at hj
  have h1 := h.ha hne
  rw [had] at h1
  cases h1
  have hlen := (List.getElem?_eq_some_iff.1 hj).1
  rw [flat_len arwV 2 (fun _ => rfl)] at hlen
  obtain ⟨x, hx⟩ := get_of_lt (l := A) (k := j / 2) (by omega)
  have hf := flat_get arwV 2 (fun _ => rfl) A (j / 2) (j % 2) x hx (by omega)
  rw [show j / 2 * 2 + j % 2 = j by omega, hj] at hf
  rw [Addr.add_lit]
  have hc := h.hc _ x hx
  rcases (by omega : j % 2 = 0 ∨ j % 2 = 1) with e | e
  · rw [e] at hf
    have : u = .int .i64 x.1 := by simpa [arwV] using hf
    rw [this, show off + j = off + j / 2 * 2 by omega]
    exact hc.c0
  · rw [e] at hf
    have : u = .int .i64 x.2 := by simpa [arwV] using hf
    rw [this, show off + j = off + j / 2 * 2 + 1 by omega]
    exact hc.c1

/-- What Judge answers: Incoherent, Torn, Circular, Spanning or Allowed. -/
def JudIs (P : Prop) (t : Bool) (Q S : Prop) (r : Int) : Prop := (r = 1 ∧ P) ∨ (¬ P ∧ ((r = 2 ∧ t = true) ∨ (t = false ∧ ((r = 3 ∧ Q) ∨ (¬ Q ∧ ((r = 4 ∧ S) ∨ (¬ S ∧ r = 0)))))))

theorem JudIs.one {P : Prop} {t : Bool} {Q S : Prop} {r r' : Int} (h : JudIs P t Q S r) (k : JudIs P t Q S r') : r = r' := by
  rcases h with ⟨h1, h2⟩ | ⟨h2, ⟨h1, h3⟩ | ⟨h3, ⟨h1, h4⟩ | ⟨h4, ⟨h1, h5⟩ | ⟨h5, h1⟩⟩⟩⟩ <;>
  rcases k with ⟨k1, k2⟩ | ⟨k2, ⟨k1, k3⟩ | ⟨k3, ⟨k1, k4⟩ | ⟨k4, ⟨k1, k5⟩ | ⟨k5, k1⟩⟩⟩⟩ <;>
  first
    | exact h1.trans k1.symm
    | exact absurd ‹P› ‹¬ P›
    | exact absurd ‹Q› ‹¬ Q›
    | exact absurd ‹S› ‹¬ S›
    | (rw [h3] at k3; cases k3)

/-- The document's notions. -/
def cohA (E : List Evt) (x : Exe) : List (Int × Int) := arwL E x ++ allD (pairB E cohP) E.length E.length
def kepA (T : List (List Ins)) (E : List Evt) (x : Exe) : List (Int × Int) := arwL E x ++ allD (pairB E (keepP T E)) E.length E.length

theorem kepA_len {T : List (List Ins)} {E : List Evt} {x : Exe} (hE : E.length ≤ 96) (hX : XOk E x) : (kepA T E x).length ≤ 100000 := by
  unfold kepA
  rw [List.length_append]
  have h1 := arwL_len hE hX
  have h2 := allD_len (pairB E (keepP T E)) E.length E.length
  have h3 : E.length * E.length ≤ 96 * 96 := Nat.mul_le_mul hE hE
  omega

end Go.Proofs.YtomijmikkbhgmaaGreat

namespace Go.Proofs.YtomijmikkbhgmaaGreat
open Go.RowKit

theorem thoL_hit {x : Evt} {kd : Int} (h : (x.kind == kd) = true) (E : List Evt) (i : Nat) : thoL kd (x :: E) i = (i : Int) :: thoL kd E (i + 1) := by rw [thoL, if_pos h]
theorem thoL_mis {x : Evt} {kd : Int} (h : (x.kind == kd) = false) (E : List Evt) (i : Nat) : thoL kd (x :: E) i = thoL kd E (i + 1) := by rw [thoL, if_neg (by simp [h])]

set_option maxHeartbeats 1000000 in
theorem ofKind_any (E : List Evt) (hE : E.length ≤ 96) (kd : Int) (v : Value) (w : World) (h : Ev4At w v E) :
    Calls Tryz.prog 142 #[v, .int .i64 kd] w fun e w' => ∃ u, e = .returned u ∧ IntNew w.heap.size w' u (thoL kd E 0) ∧ Below w.heap.size w w' := by
  obtain ⟨ao, b, off, cap, hv, ha, _, hc⟩ := h
  subst hv
  obtain ⟨i0, hi, hz0, hz1, hz2⟩ := info_parts Tryz.info3
  have HI : Hid (Tryz.prog.info? 3 = some i0 ∧ i0.zero = some (.int .i64 0) ∧ i0.size = 1 ∧ i0.bytes = 8) := ⟨hi, hz0, hz1, hz2⟩
  clear hi hz0 hz1 hz2
  go_enter Tryz.func142, Tryz.ntmps142
  go_wp2_with fail
  go_loopw [5, 10] (fun u i wr => ∃ (k : Nat) (xs : List Int), k ≤ E.length ∧ i = .int .i64 k ∧ xs.length ≤ k ∧ Hid (thoL kd E 0 = xs ++ thoL kd (E.drop k) k) ∧ wr.ownsRow w.heap.size 3 1 u xs.length (xs.map (Value.int .i64)) ∧ Below w.heap.size w wr) (fun _ i _ => E.length - (intOf i).toNat)
  case atStart => exact ⟨0, [], Nat.zero_le _, rfl, Nat.le_refl _, rfl, World.ownsRow_nil _ _ _ _, Below.refl _ _⟩
  case round =>
    obtain ⟨k, xs, hk, rfl, hxk, hn, hown, hb⟩ := hrel
    by_cases hlt : k < E.length
    · obtain ⟨x, hx⟩ := get_of_lt hlt
      have hC := hc k x hx
      have hbl := hC.lt
      obtain rfl := ha (ne_nil hlt)
      obtain ⟨c0, c1, c2, c3⟩ := ev4C_keeps _ _ _ _ _ hb hC
      have HN : Hid (thoL kd E 0 = xs ++ thoL kd (x :: E.drop (k + 1)) k) := by rw [← drop_cons hx]; exact hn
      have hsz := hb.size
      clear hn hx hc hC ha
      cases h1 : x.kind == kd
      · have HM : Hid (thoL kd E 0 = xs ++ thoL kd (E.drop (k + 1)) (k + 1)) := HN.out.trans (by rw [thoL_mis h1])
        go_wp2_with fail
        go_roundw
        case measure => simp [intOf]; omega
        case rel => exact ⟨k + 1, xs, by omega, by go_num, by omega, HM.out, hown.alloc _, hb.alloc hb.size _⟩
      · have HM : Hid (thoL kd E 0 = (xs ++ [(k : Int)]) ++ thoL kd (E.drop (k + 1)) (k + 1)) := HN.out.trans (by rw [thoL_hit h1]; simp)
        go_wp2_with (at_builtin; refine wpList_append_own _ rfl _ _ 26 rfl w.heap.size 3 i0 (.int .i64 0) 1 8 Tryz.underlying26 HI.out.1 HI.out.2.1 HI.out.2.2.1 HI.out.2.2.2 rfl (by decide) _ _ _ rfl ((hown.alloc _).alloc _) ⟨wr.heap.size + 1, 0, none⟩ 1 1 [.int .i64 k] rfl rfl (new_one (by simp)) (by simp [Value.oneCell']) (by unfold maxLen; omega) (by omega) (by simp; omega) ?_)
        intro u' w1 hown' hgrow _
        have hb' : Below w.heap.size w w1 := Below.grown ((hb.alloc hsz _).alloc (by simp; omega) _) hgrow (by simp; omega) (fun kk e => (hown.lt kk e).1)
        clear hgrow hown
        go_wp2_with fail
        go_roundw
        case measure => simp [intOf]; omega
        case rel => exact ⟨k + 1, xs ++ [(k : Int)], by omega, by go_num, by simp; omega, HM.out, own_snoc hown', hb'⟩
    · have HM : Hid (thoL kd E 0 = xs) := hn.out.trans (by rw [drop_nil hlt]; simp [thoL])
      clear hn hc ha
      go_wp2_with fail
      go_ret
      exact ⟨_, rfl, by rw [HM.out]; exact owns_int hown, hb⟩

/-- The program's notions. -/
def exQ (E : List Evt) (x : Exe) : List (Int × Int) := allS (exF E (rankG E.length (srcL E x.from') x.order)) (fun j => (srcL E x.from').getD j 0) E.length E.length
def cohB (E : List Evt) (x : Exe) : List (Int × Int) := exQ E x ++ allU (pairB E cohQ) E.length
def kepQ (T : List (List Ins)) (E : List Evt) (x : Exe) : List (Int × Int) := exQ E x ++ allU (pairB E (keepQ T E)) E.length

theorem range_getD (S : List Int) (n : Nat) (h : S.length = n) : (List.range n).map (fun j => S.getD j 0) = S := by
  apply List.ext_getElem?
  intro i
  rw [List.getElem?_map]
  by_cases hi : i < n
  · rw [List.getElem?_eq_getElem (by simpa using hi)]
    simp only [List.getElem_range, Option.map_some]
    rw [List.getD, List.getElem?_eq_getElem (by omega)]
    rfl
  · rw [List.getElem?_eq_none (by simpa using hi), List.getElem?_eq_none (by omega)]; rfl

end Go.Proofs.YtomijmikkbhgmaaGreat

namespace Go.Proofs.YtomijmikkbhgmaaGreat
open Go.RowKit

set_option maxHeartbeats 1000000 in
theorem isIn_any (l : List Int) (x : Int) (v : Value) (w : World) (h : IntAt w v l) (hl : l.length ≤ 100000) :
    Calls Tryz.prog 132 #[v, .int .i64 x] w fun e w' => e = .returned (.bool (l.contains x)) ∧ w' = w := by
  obtain ⟨ao, b, off, cap, hv, ha, _, hc⟩ := h
  subst hv
  have HC : Hid (∀ k x, l[k]? = some x → IntC w b (off + k * 1) x) := hc
  have HB : Hid (l.contains x = (l.drop 0).contains x) := rfl
  generalize l.contains x = B at HB ⊢
  clear hc
  go_enter Tryz.func132, Tryz.ntmps132
  go_wp2_with fail
  go_loop [9] (fun i => ∃ k : Nat, k ≤ l.length ∧ i = .int .i64 k ∧ Hid (B = (l.drop k).contains x)) (fun i => l.length - (intOf i).toNat)
  case atStart => exact ⟨0, Nat.zero_le _, rfl, HB.out⟩
  case round =>
    clear HB
    obtain ⟨k, hk, rfl, hn⟩ := hrel
    by_cases hlt : k < l.length
    · obtain ⟨y, hy⟩ := get_of_lt hlt
      obtain rfl := ha (ne_nil hlt)
      have c0 := HC.out k y hy
      unfold IntC at c0
      rw [Nat.mul_one] at c0
      have hkI : (k : Int) < (l.length : Int) := by omega
      have HN : Hid (B = (y :: l.drop (k + 1)).contains x) := by rw [← drop_cons hy]; exact hn
      clear hn hy
      cases hxy : y == x
      · have HM : Hid (B = (l.drop (k + 1)).contains x) := HN.out.trans (by rw [List.contains_cons, Bool.beq_comm, hxy, Bool.false_or])
        clear HN
        go_wp2_with fail
        go_round
        case measure => simp [intOf]; omega
        case rel => exact ⟨k + 1, by omega, by go_num, HM.out⟩
      · have HM : Hid (B = true) := HN.out.trans (by rw [List.contains_cons, Bool.beq_comm, hxy, Bool.true_or])
        clear HN
        go_wp2_with fail
        go_ret
        exact ⟨by rw [HM.out]; rfl, rfl⟩
    · have HM : Hid (B = false) := hn.out.trans (by rw [drop_nil hlt]; rfl)
      have hkI : (l.length : Int) ≤ (k : Int) := by omega
      clear hn
      go_wp2_with fail
      go_ret
      exact ⟨by rw [HM.out]; rfl, rfl⟩

set_option maxHeartbeats 1000000 in
theorem isOrderOf_any (l m : List Int) (hm : m.length ≤ 100000) (u v : Value) (w : World) (hu : IntAt w u l) (hv : IntAt w v m) :
    Calls Tryz.prog 134 #[u, v] w fun e w' => e = .returned (.bool (shufB l m)) ∧ w' = w := by
  have HU : Hid (IntAt w u l) := hu
  obtain ⟨ao, b, off, cap, hv1, ha, _, hc⟩ := hu
  obtain ⟨ao2, b2, off2, cap2, hv2, ha2, _, hc2⟩ := hv
  subst hv1 hv2
  have HC : Hid (∀ k x, m[k]? = some x → IntC w b2 (off2 + k * 1) x) := hc2
  clear hc hc2
  by_cases hlen : l.length = m.length
  · have k0 : ((l.length : Int) != (m.length : Int)) = false := by simp [hlen]
    have HB : Hid (shufB l m = (m.drop 0).all fun y => l.contains y) := by show shufB l m = _; unfold shufB; simp [hlen]
    have HLL : Hid (l.length ≤ 100000) := by show l.length ≤ _; omega
    generalize shufB l m = B at HB ⊢
    clear hlen
    go_enter Tryz.func134, Tryz.ntmps134
    go_wp2_with fail
    go_loop [14] (fun i => ∃ k : Nat, k ≤ m.length ∧ i = .int .i64 k ∧ Hid (B = (m.drop k).all fun y => l.contains y)) (fun i => m.length - (intOf i).toNat)
    case atStart => exact ⟨0, Nat.zero_le _, rfl, HB.out⟩
    case round =>
      clear HB
      obtain ⟨k, hk, rfl, hn⟩ := hrel
      by_cases hlt : k < m.length
      · obtain ⟨y, hy⟩ := get_of_lt hlt
        obtain rfl := ha2 (ne_nil hlt)
        have c0 := HC.out k y hy
        unfold IntC at c0
        rw [Nat.mul_one] at c0
        have hkI : (k : Int) < (m.length : Int) := by omega
        have HN : Hid (B = (l.contains y && (m.drop (k + 1)).all fun y => l.contains y)) := hn.out.trans (by rw [drop_cons hy, List.all_cons])
        clear hn hy
        go_wp2_with fail
        refine (isIn_any l y _ _ HU.out HLL.out).mono ?_
        cases hly : l.contains y
        · have HM : Hid (B = false) := HN.out.trans (by rw [hly, Bool.false_and])
          rintro e w3 ⟨rfl, rfl⟩
          clear HN hly
          go_wp2_with fail
          go_ret
          exact ⟨by rw [HM.out]; rfl, rfl⟩
        · have HM : Hid (B = (m.drop (k + 1)).all fun y => l.contains y) := HN.out.trans (by rw [hly, Bool.true_and])
          rintro e w3 ⟨rfl, rfl⟩
          clear HN hly
          go_wp2_with fail
          go_round
          case measure => simp [intOf]; omega
          case rel => exact ⟨k + 1, by omega, by go_num, HM.out⟩
      · have HM : Hid (B = true) := hn.out.trans (by rw [drop_nil hlt]; rfl)
        have hkI : (m.length : Int) ≤ (k : Int) := by omega
        clear hn
        go_wp2_with fail
        go_ret
        exact ⟨by rw [HM.out]; rfl, rfl⟩
  · have k0 : ((l.length : Int) != (m.length : Int)) = true := by simp; omega
    have HB : Hid (shufB l m = false) := by
      show shufB l m = false
      have : (l.length == m.length) = false := by simpa using hlen
      unfold shufB; rw [this, Bool.false_and]
    go_enter Tryz.func134, Tryz.ntmps134
    go_wp2_with fail
    go_ret
    exact ⟨by rw [HB.out]; rfl, rfl⟩

/-- Of these reads, each with one of what it may read from, and no more. -/
def fromB (E0 : List Evt) : List Evt → List Int → Bool
  | [], F => F.isEmpty
  | y :: E, F => if y.kind == 0 then (match F with
    | [] => false
    | f :: F => (-1 :: wrs E0 0 y.loc).contains f && fromB E0 E F) else fromB E0 E F

theorem fromB_not {E0 : List Evt} {y : Evt} (h : (y.kind == 0) = false) (E : List Evt) (F : List Int) : fromB E0 (y :: E) F = fromB E0 E F := by simp [fromB, h]
theorem fromB_out {E0 : List Evt} {y : Evt} (h : (y.kind == 0) = true) (E : List Evt) : fromB E0 (y :: E) [] = false := by simp [fromB, h]
theorem fromB_read {E0 : List Evt} {y : Evt} (h : (y.kind == 0) = true) (E : List Evt) (f : Int) (F : List Int) : fromB E0 (y :: E) (f :: F) = ((-1 :: wrs E0 0 y.loc).contains f && fromB E0 E F) := by simp [fromB, h]

theorem fromB_eq (E0 : List Evt) (E : List Evt) (i : Nat) (F : List Int) : fromB E0 E F = (F.length == (rdsX E i).length && ((rdsX E i).zip F).all (okFrom E0)) := by
  induction E generalizing i F with
  | nil =>
    cases F with
    | nil => rfl
    | cons f F => rfl
  | cons y E ih =>
    cases h : y.kind == 0
    · rw [fromB_not h, rdsX_mis h]; exact ih (i + 1) F
    · rw [rdsX_hit h]
      cases F with
      | nil => rw [fromB_out h]; rfl
      | cons f F =>
        rw [fromB_read h, ih (i + 1) F, List.zip_cons_cons, List.all_cons]
        have e1 : (-1 :: wrs E0 0 y.loc).contains f = okFrom E0 ((i, y), f) := by
          unfold okFrom
          rw [List.contains_cons]
          exact Bool.or_comm _ _
        rw [e1]
        simp only [List.length_cons]
        have e2 : (F.length + 1 == (rdsX E (i + 1)).length + 1) = (F.length == (rdsX E (i + 1)).length) := by
          rw [Bool.eq_iff_iff]; simp
        rw [e2]
        cases okFrom E0 ((i, y), f) <;> cases (F.length == (rdsX E (i + 1)).length) <;> rfl

set_option maxRecDepth 20000 in
set_option maxHeartbeats 1000000 in
theorem hasFrom_any (E : List Evt) (hE : E.length ≤ 96) (F : List Int) (v vf : Value) (w : World) (h : Ev4At w v E) (hf : IntAt w vf F) :
    Calls Tryz.prog 97 #[v, vf] w fun e w' => e = .returned (.bool (fromB E E F)) ∧ Below w.heap.size w w' := by
  have HE : Hid (Ev4At w v E) := h
  obtain ⟨ao, b, off, cap, hv, ha, _, hc⟩ := h
  obtain ⟨aof, bf, offf, capf, hvf, haf, _, hcf⟩ := hf
  subst hv hvf
  have HC : Hid (∀ k y, E[k]? = some y → Ev4C w b (off + k * 4) y) := hc
  have HF : Hid (∀ k a, F[k]? = some a → IntC w bf (offf + k * 1) a) := hcf
  have HB : Hid (fromB E E F = fromB E (E.drop 0) (F.drop 0)) := rfl
  generalize fromB E E F = B at HB ⊢
  clear hc hcf
  go_enter Tryz.func97, Tryz.ntmps97
  go_wp2_with fail
  go_loopw [5, 11] (fun u i wr => ∃ (k c : Nat), k ≤ E.length ∧ c ≤ k ∧ c ≤ F.length ∧ i = .int .i64 k ∧ u = .int .i64 c ∧ Hid (B = fromB E (E.drop k) (F.drop c)) ∧ Below w.heap.size w wr) (fun _ i _ => E.length - (intOf i).toNat)
  case atStart => exact ⟨0, 0, Nat.zero_le _, Nat.zero_le _, Nat.zero_le _, rfl, rfl, HB.out, Below.refl _ _⟩
  case round =>
    clear HB
    obtain ⟨k, n, hk, hnk, hnF, rfl, rfl, hs, hb⟩ := hrel
    have hsz := hb.size
    by_cases hlt : k < E.length
    · obtain ⟨y, hy⟩ := get_of_lt hlt
      obtain rfl := ha (ne_nil hlt)
      obtain ⟨c0, c1, c2, c3⟩ := ev4C_keeps _ _ _ _ _ hb (HC.out k y hy)
      have hkI : (k : Int) < (E.length : Int) := by omega
      have m0 := World.block_lt_of_cell? _ _ c0
      simp only at m0
      have HS0 : Hid (B = fromB E (y :: E.drop (k + 1)) (F.drop n)) := hs.out.trans (by rw [drop_cons hy])
      have hba := below_alloc wr (.cells #[.int .i64 y.thread, .int .i64 y.place, .int .i64 y.kind, .int .i64 y.loc] 75)
      have hb4 := below_more hb hba
      clear hs hy
      cases h0 : y.kind == 0
      · have h0' : (y.kind != 0) = true := by simp [bne, h0]
        have HM : Hid (B = fromB E (E.drop (k + 1)) (F.drop n)) := HS0.out.trans (fromB_not h0 _ _)
        go_wp2_with fail
        go_roundw
        case measure => simp [intOf]; omega
        case rel => exact ⟨k + 1, n, by omega, by omega, hnF, by go_num, rfl, HM.out, hb4⟩
      · have h0' : (y.kind != 0) = false := by simp [bne, h0]
        by_cases hnl : n < F.length
        · obtain ⟨f, hf⟩ := get_of_lt hnl
          obtain rfl := haf (ne_nil hnl)
          have HM : Hid (B = ((-1 :: wrs E 0 y.loc).contains f && fromB E (E.drop (k + 1)) (F.drop (n + 1)))) := HS0.out.trans (by rw [drop_cons hf, fromB_read h0])
          have hwl := wrs_len E 0 y.loc
          generalize hW : -1 :: wrs E 0 y.loc = W at HM
          have HW : Hid (-1 :: wrs E 0 y.loc = W) := hW
          have hWl : W.length ≤ 100000 := by rw [← hW]; simp; omega
          generalize hcf : W.contains f = CB at HM
          have HCF : Hid (W.contains f = CB) := hcf
          have hnI : (n : Int) < (F.length : Int) := by omega
          have HQ0 : Hid (w.cell? ⟨bf, offf + n, none⟩ = some (.int .i64 f)) := by
            have := HF.out n f hf
            unfold IntC at this
            rw [Nat.mul_one] at this; exact this
          clear HS0 hf hW hcf hwl
          go_wp2_with fail
          refine (sources_any E hE y.loc _ _ (HE.out.keep hb4)).mono ?_
          rw [HW.out]
          rintro e w5 ⟨u5, rfl, hu5, hb5⟩
          have hbw5 := below_more hb4 hb5
          have q0 := keep_cell hbw5 HQ0.out
          have HU5 : Hid (IntAt w5 u5 W) := hu5.at'
          clear c0 c1 c2 c3 m0 hu5
          go_wp2_with fail
          refine (isIn_any W f _ _ HU5.out hWl).mono ?_
          rw [HCF.out]
          rintro e w6 ⟨rfl, hw6⟩
          replace hw6 := hw6.symm
          subst hw6
          cases CB
          · have HM2 : Hid (B = false) := HM.out.trans (by rfl)
            go_wp2_with fail
            go_ret
            exact ⟨by rw [HM2.out]; rfl, hbw5⟩
          · have HM2 : Hid (B = fromB E (E.drop (k + 1)) (F.drop (n + 1))) := HM.out.trans (by rw [Bool.true_and])
            go_wp2_with fail
            go_roundw
            case measure => simp [intOf]; omega
            case rel => exact ⟨k + 1, n + 1, by omega, by omega, by omega, by go_num, by go_num, HM2.out, hbw5⟩
        · have HM : Hid (B = false) := HS0.out.trans (by rw [drop_nil hnl, fromB_out h0])
          have hnI : (F.length : Int) ≤ (n : Int) := by omega
          go_wp2_with fail
          go_ret
          exact ⟨by rw [HM.out]; rfl, hb4⟩
    · have HM : Hid (B = ((n : Int) == (F.length : Int))) := hs.out.trans (by
        rw [drop_nil hlt]
        show (F.drop n).isEmpty = _
        rw [Bool.eq_iff_iff]
        simp [List.isEmpty_iff]
        omega)
      have hkI : (E.length : Int) ≤ (k : Int) := by omega
      clear hs
      go_wp2_with fail
      go_ret
      exact ⟨by rw [HM.out]; rfl, hb⟩

set_option maxRecDepth 20000 in
set_option maxHeartbeats 1000000 in
theorem hasOrder_any (E : List Evt) (hE : E.length ≤ 96) (x : Exe) (v vo : Value) (w : World) (h : Ev4At w v E) (ho : LstAt w vo x.order) :
    Calls Tryz.prog 98 #[v, vo] w fun e w' => e = .returned (.bool (x.order.length == 3 && (List.range' 0 3).all (okOrd E x))) ∧ Below w.heap.size w w' := by
  have HE : Hid (Ev4At w v E) := h
  obtain ⟨ao, b, off, cap, hv, _⟩ := h
  obtain ⟨aoo, bo, offo, capo, hvo, hao, _, hco⟩ := ho
  subst hv hvo
  have HO : Hid (∀ k l, x.order[k]? = some l → LC w bo (offo + k * 1) l) := hco
  clear hco
  by_cases h3 : x.order.length = 3
  · have HB : Hid ((x.order.length == 3 && (List.range' 0 3).all (okOrd E x)) = (List.range' 0 (3 - 0)).all (okOrd E x)) := by show _ = _; rw [h3]; rfl
    generalize (x.order.length == 3 && (List.range' 0 3).all (okOrd E x)) = B at HB ⊢
    have HL3 : Hid (x.order.length = 3) := h3
    obtain rfl := hao (by intro h; rw [h] at h3; simp at h3)
    rw [h3]
    clear h3 hao
    go_enter Tryz.func98, Tryz.ntmps98
    go_wp2_with fail
    go_loopw [13] (fun i wr => ∃ j : Nat, j ≤ 3 ∧ i = .int .i64 j ∧ Hid (B = (List.range' j (3 - j)).all (okOrd E x)) ∧ Below w.heap.size w wr) (fun i _ => 3 - (intOf i).toNat)
    case atStart => exact ⟨0, by omega, rfl, HB.out, Below.refl _ _⟩
    case round =>
      clear HB
      obtain ⟨j, hj, rfl, hn, hb⟩ := hrel
      by_cases hj3 : j < 3
      · obtain ⟨l, hl⟩ := get_of_lt (l := x.order) (k := j) (by have := HL3.out; omega)
        obtain ⟨vl, o0, ivl⟩ := HO.out j l hl
        rw [Nat.mul_one] at o0
        have HN : Hid (B = (shufB l (wrs E 0 (j : Int)) && (List.range' (j + 1) (3 - (j + 1))).all (okOrd E x))) := hn.out.trans (by rw [range_step hj3]; unfold okOrd; rw [List.getD, hl]; rfl)
        have HIV : Hid (IntAt w vl l) := ivl
        obtain ⟨aol, capl, hvl⟩ := ivl.form
        subst hvl
        have o1 := keep_cell hb o0
        have hjI : (j : Int) < 3 := by omega
        have hwl := wrs_len E 0 (j : Int)
        generalize hW : wrs E 0 (j : Int) = W at HN hwl
        have HW : Hid (wrs E 0 (j : Int) = W) := hW
        generalize hsh : shufB l W = SB at HN
        have HSH : Hid (shufB l W = SB) := hsh
        clear hn hl ivl o0 hW hsh
        go_wp2_with fail
        refine (writesP_any E hE (j : Int) _ _ (HE.out.keep hb)).mono ?_
        rw [HW.out]
        rintro e w5 ⟨u5, rfl, hu5, hb5⟩
        have hbw5 := below_more hb hb5
        have HU5 : Hid (IntAt w5 u5 W) := hu5.at'
        clear hu5 o1
        go_wp2_with fail
        refine (isOrderOf_any l W (by omega) _ _ _ (HIV.out.keep hbw5) HU5.out).mono ?_
        rw [HSH.out]
        rintro e w6 ⟨rfl, hw6⟩
        replace hw6 := hw6.symm
        subst hw6
        cases SB
        · have HM : Hid (B = false) := HN.out.trans (by rfl)
          go_wp2_with fail
          go_ret
          exact ⟨by rw [HM.out]; rfl, hbw5⟩
        · have HM : Hid (B = (List.range' (j + 1) (3 - (j + 1))).all (okOrd E x)) := HN.out.trans (by rw [Bool.true_and])
          go_wp2_with fail
          go_roundw
          case measure => simp [intOf]; omega
          case rel => exact ⟨j + 1, by omega, by go_num, HM.out, hbw5⟩
      · have hj3' : j = 3 := by omega
        subst hj3'
        have HM : Hid (B = true) := hn.out.trans (by rfl)
        clear hn
        go_wp2_with fail
        go_ret
        exact ⟨by rw [HM.out]; rfl, hb⟩
  · have h3' : ((x.order.length : Int) != 3) = true := by simp; omega
    have HB : Hid ((x.order.length == 3 && (List.range' 0 3).all (okOrd E x)) = false) := by
      show _ = _
      have : (x.order.length == 3) = false := by simpa using h3
      rw [this, Bool.false_and]
    go_enter Tryz.func98, Tryz.ntmps98
    go_wp2_with fail
    go_ret
    exact ⟨by rw [HB.out]; rfl, Below.refl _ _⟩

theorem exeB_eq (E : List Evt) (x : Exe) : exeB E x = (fromB E E x.from' && (x.order.length == 3 && (List.range' 0 3).all (okOrd E x))) := by
  unfold exeB
  rw [fromB_eq E E 0]
  generalize (x.from'.length == (rdsX E 0).length) = a
  generalize (x.order.length == 3) = b
  generalize ((rdsX E 0).zip x.from').all (okFrom E) = c
  generalize (List.range' 0 3).all (okOrd E x) = d
  cases a <;> cases b <;> cases c <;> cases d <;> rfl

set_option maxHeartbeats 1000000 in
theorem has_any (E : List Evt) (hE : E.length ≤ 96) (x : Exe) (v vf vo : Value) (w : World) (h : Ev4At w v E) (hx : ExeAt w vf vo x) :
    Calls Tryz.prog 53 #[v, .agg #[vf, vo]] w fun e w' => e = .returned (.bool (exeB E x)) ∧ Below w.heap.size w w' := by
  have HF : Hid (∀ w', Below w.heap.size w w' → Calls Tryz.prog 97 #[v, vf] w' fun e w'' => e = .returned (.bool (fromB E E x.from')) ∧ Below w'.heap.size w' w'') := fun w' hb => hasFrom_any E hE x.from' v vf w' (h.keep hb) (hx.f.keep hb)
  have HO : Hid (∀ w', Below w.heap.size w w' → Calls Tryz.prog 98 #[v, vo] w' fun e w'' => e = .returned (.bool (x.order.length == 3 && (List.range' 0 3).all (okOrd E x))) ∧ Below w'.heap.size w' w'') := fun w' hb => hasOrder_any E hE x v vo w' (h.keep hb) (hx.o.keep hb)
  have HB : Hid (exeB E x = (fromB E E x.from' && (x.order.length == 3 && (List.range' 0 3).all (okOrd E x)))) := exeB_eq E x
  generalize exeB E x = B at HB ⊢
  generalize fromB E E x.from' = FB at HF HB
  generalize (x.order.length == 3 && (List.range' 0 3).all (okOrd E x)) = OB at HO HB
  obtain ⟨aof, capf, hvf⟩ := hx.f.form
  obtain ⟨aoo, bo, offo, capo, hvo, _⟩ := hx.o
  obtain ⟨ao, b, off, cap, hv, _⟩ := h
  subst hv hvf hvo
  clear hx
  go_enter Tryz.func53, Tryz.ntmps53
  go_wp2_with fail
  have hba := below_alloc w (.cells #[.slice aof x.from'.length capf, .slice aoo x.order.length capo] 29)
  refine (HF.out _ hba).mono ?_
  rintro e w2 ⟨rfl, hb2⟩
  have hbw2 := below_more hba hb2
  have e1 := keep_cell hb2 (b := w.heap.size) (off := 1) (u := .slice aoo x.order.length capo) (by simp)
  cases FB
  · go_wp2_with fail
    go_ret
    exact ⟨by rw [HB.out]; rfl, hbw2⟩
  · go_wp2_with fail
    refine (HO.out w2 hbw2).mono ?_
    rintro e w3 ⟨rfl, hb3⟩
    go_wp2_with fail
    go_ret
    exact ⟨by rw [HB.out, Bool.true_and]; rfl, below_more hbw2 hb3⟩

end Go.Proofs.YtomijmikkbhgmaaGreat
