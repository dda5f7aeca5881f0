import Derived.Test.YtomijmikkbhgmabQa
import Derived.Test.YtomijmikkbhgmabQd
import Derived.Test.YtomijmikkbhgmabT8
import Derived.Test.YtomijmikkbhgmabT13
import Derived.BigQuiet
import Derived.Deep.QuietTactic
import Derived.Test.YtomijmikkbhgmabT11
import Derived.Test.YtomijmikkbhgmabLm
import Derived.Test.YtomijmikkbhgmabT2
import Derived.Test.YtomijmikkbhgmabT4
namespace Go.Proofs.Ytomijmikkbhgmab
open Go.RowKit

theorem int_cast_sub {a : Nat} (h : 1 ≤ a) : ((a : Int) - 1) = ((a - 1 : Nat) : Int) := by omega

/-- Circle's row: which events are gone. -/
structure Gon (w wr : World) (bT n : Nat) (g : Nat → Bool) : Prop where
  hb : Below w.heap.size w wr
  row : wr.rowIs bT 4 n (fun i => .bool (g i))
  n1 : w.heap.size ≤ bT

theorem Gon.set {w wr : World} {bT n : Nat} {g : Nat → Bool} (h : Gon w wr bT n g) (i : Nat) : Gon w (wr.setCell ⟨bT, i, none⟩ (.bool true)) bT n (take1 g i) := by
  refine ⟨h.hb.setCell h.n1 _, (h.row.set i _).congr fun j _ => ?_, h.n1⟩
  unfold take1
  by_cases e : j = i
  · simp [e]
  · simp [e]

end Go.Proofs.Ytomijmikkbhgmab

namespace Go.Proofs.Ytomijmikkbhgmab
open Go.RowKit

/-- An execution that fits its events. -/
structure XOk (E : List Evt) (x : Exe) : Prop where
  f : x.from'.length = (rdsX E 0).length
  o3 : x.order.length = 3
  l96 : ∀ l ∈ x.order, l.length ≤ 96
  ar : Arws E.length (arwL E x)

theorem flat_le {α β : Type} (f : α → List β) (m : Nat) (l : List α) (h : ∀ x ∈ l, (f x).length ≤ m) : (l.flatMap f).length ≤ l.length * m := by
  induction l with
  | nil => simp
  | cons a l ih =>
    rw [List.flatMap_cons, List.length_append, List.length_cons, Nat.add_mul]
    have h1 := h a (List.mem_cons_self ..)
    have h2 := ih (fun x hx => h x (List.mem_cons_of_mem _ hx))
    omega

theorem ordAt_len {E : List Evt} {x : Exe} (h : XOk E x) (loc : Int) : (ordAt x loc).length ≤ 96 := by
  unfold ordAt
  rw [List.getD]
  cases hg : x.order[loc.toNat]? with
  | none => simp
  | some l => exact h.l96 l (List.mem_of_getElem? hg)

theorem arwL_len {E : List Evt} (hE : E.length ≤ 96) {x : Exe} (h : XOk E x) : (arwL E x).length ≤ 40000 := by
  unfold arwL
  rw [List.length_append]
  have h1 := flat_le (arw1 x) 97 ((rdsX E 0).zip x.from') (fun q _ => by
    unfold arw1
    rw [List.length_append, fanL_len]
    have := restL_len (ordAt x q.1.2.loc) q.2
    have := ordAt_len h q.1.2.loc
    split <;> simp <;> omega)
  have h2 := flat_le tailsL 9216 x.order (fun l hl => by
    have h3 := tailsL_len l
    have h4 := h.l96 l hl
    have h5 : l.length * l.length ≤ 96 * 96 := Nat.mul_le_mul h4 h4
    omega)
  have h3 := rdsX_len E 0
  rw [List.length_zip] at h1
  rw [h.o3] at h2
  have h4 : min (rdsX E 0).length x.from'.length * 97 ≤ 96 * 97 := Nat.mul_le_mul_right 97 (by omega)
  omega

/-- P6: are they Reads or Writes of one location, and of one thread? -/
def cohP (_ _ : Nat) (a b : Evt) : Bool := memB a.kind && memB b.kind && a.thread == b.thread && a.loc == b.loc

end Go.Proofs.Ytomijmikkbhgmab

namespace Go.Proofs.Ytomijmikkbhgmab
open Go.RowKit

def headNe (l : List Int) (v : Int) : Bool := match l with
  | [] => true
  | a :: _ => a != v
/-- Is a Swap's Write not the first one behind what its Read reads from? -/
def torn1 (x : Exe) (q : (Nat × Evt) × Int) : Bool := q.1.2.ins.op == 3 && headNe (restL (ordAt x q.1.2.loc) q.2) ((q.1.1 : Int) + 1)
def tornB (E : List Evt) (x : Exe) : Bool := ((rdsX E 0).zip x.from').any (torn1 x)

end Go.Proofs.Ytomijmikkbhgmab

namespace Go.Proofs.Ytomijmikkbhgmab
open Go.RowKit

/-- P8: does the thread of both keep one ahead of the other? -/
def keepP (T : List (List Ins)) (E : List Evt) (i j : Nat) (a b : Evt) : Bool := a.thread == b.thread && keepB E i j (T.getD a.thread.toNat []) a b

theorem EvIn.same {T : List (List Ins)} {a b : Evt} {i p i' p' : Nat} {l l' : List Ins} (ha : EvIn T a i p l) (hb : EvIn T b i' p' l') (h : a.thread = b.thread) : i' = i ∧ l' = l := by
  have h1 := ha.th
  have h2 := hb.th
  have e : i' = i := by omega
  subst e
  have := ha.l0.symm.trans hb.l0
  exact ⟨rfl, (Option.some.inj this).symm⟩
theorem EvIn.getD {T : List (List Ins)} {a : Evt} {i p : Nat} {l : List Ins} (ha : EvIn T a i p l) : T.getD a.thread.toNat [] = l := by
  rw [ha.th, Int.toNat_natCast, List.getD, ha.l0]; rfl

end Go.Proofs.Ytomijmikkbhgmab

namespace Go.Proofs.Ytomijmikkbhgmab
open Go.RowKit

theorem cntO_cons (op : Int) (l : List Ins) (T : List (List Ins)) : cntO op (l :: T) = (l.filter fun x => x.op == op).length + cntO op T := rfl

set_option maxHeartbeats 2000000 in
theorem count_any (T : List (List Ins)) (fa : Bool) (c : List Atm) (v vt vc : Value) (w : World) (h : TestAt w v T fa c vt vc) (h2 : T.length ≤ 4) (hL : lensB T = true) (op : Int) :
    Calls Try.prog 68 #[v, .int .i64 op] w fun e w' => e = .returned (.int .i64 (cntO op T : Nat)) ∧ Below w.heap.size w w' := by
  obtain ⟨hv, ht, ⟨hc0, ao', b', off', cap', hcv, _, _, _⟩⟩ := h
  obtain ⟨ht0, ao, b, off, cap, htv, hta, _, htc⟩ := ht.opened
  subst hv htv hcv
  generalize hN : cntO op T = N
  have HN0 : Hid (cntO op T = N) := hN
  clear hN
  go_enter Try.func68, Try.ntmps68
  go_wp2_with fail
  have hbox := boxed w (.slice ao T.length cap) (.slice ao' c.length cap') fa 25
  generalize w.alloc (.cells #[.slice ao T.length cap, .bool fa, .slice ao' c.length cap'] 25) = W at hbox ⊢
  obtain ⟨hbW, _, g0, _, _⟩ := hbox
  go_loop [5, 6] (fun u i => ∃ (k n : Nat), k ≤ T.length ∧ i = .int .i64 k ∧ u = .int .i64 n ∧ n ≤ 12 * k ∧ Hid (N = n + cntO op (T.drop k))) (fun _ i => T.length - (intOf i).toNat)
  case atStart => exact ⟨0, 0, Nat.zero_le _, rfl, rfl, Nat.le_refl _, by rw [List.drop_zero, HN0.out]; exact (Nat.zero_add _).symm⟩
  case round =>
    obtain ⟨k, n, hk, rfl, rfl, hnk, hn⟩ := hrel
    by_cases hlt : k < T.length
    · obtain ⟨l, hx⟩ := get_of_lt hlt
      obtain ⟨hbl, ao2, cap2, c0, hil⟩ := htc k l hx
      obtain rfl := hta (ne_nil hlt)
      have hl12 := lensB_get hL hx
      have HN : Hid (N = n + ((l.filter fun x => x.op == op).length + cntO op (T.drop (k + 1)))) := hn.out.trans (by rw [drop_cons hx]; rfl)
      have c1 := keep_cell hbW c0
      have HIL : Hid (InsAt W (.slice ao2 l.length cap2) l) := hil.keep hbW
      have hbl2 := World.block_lt_of_cell? _ _ c1
      clear hx hn hil ht c0 hL htc hta HN0
      generalize hR : cntO op (T.drop (k + 1)) = R at HN
      have HR : Hid (cntO op (T.drop (k + 1)) = R) := hR
      clear hR
      go_wp2_with fail
      go_loop [5, 7] (fun u i => ∃ (j n : Nat), j ≤ l.length ∧ i = .int .i64 j ∧ u = .int .i64 n ∧ n ≤ 12 * k + j ∧ Hid (N = n + (((l.drop j).filter fun x => x.op == op).length + R))) (fun _ i => l.length - (intOf i).toNat)
      case atStart => exact ⟨0, n, Nat.zero_le _, rfl, rfl, by omega, HN.out⟩
      case round =>
        clear HN hnk
        obtain ⟨j, n2, hj, rfl, rfl, hnj, hn⟩ := hrel
        by_cases hlt2 : j < l.length
        · obtain ⟨x, hx⟩ := get_of_lt hlt2
          obtain ⟨_, ao3, b3, off3, cap3, hv3, ha3, _, hc3⟩ := HIL.out
          have hC := hc3 j x hx
          have hbl3 := hC.lt
          have d0 := hC.c0
          rw [drop_cons hx] at hn
          have HN2 : Hid (N = n2 + (((x :: l.drop (j + 1)).filter fun x => x.op == op).length + R)) := hn
          simp only [Value.slice.injEq] at hv3
          obtain ⟨e1, _, e3⟩ := hv3
          rw [ha3 (ne_nil hlt2)] at e1
          subst e1
          clear hn hc3 hC ha3 e3 hx
          cases hop : x.op == op
          · have HM : Hid (N = n2 + (((l.drop (j + 1)).filter fun x => x.op == op).length + R)) := HN2.out.trans (by rw [List.filter_cons, hop]; rfl)
            go_wp2_with fail
            go_round
            case measure => simp [intOf]; omega
            case rel => exact ⟨j + 1, n2, by omega, by go_num, rfl, by omega, HM.out⟩
          · have HM : Hid (N = (n2 + 1) + (((l.drop (j + 1)).filter fun x => x.op == op).length + R)) := HN2.out.trans (by rw [List.filter_cons, hop]; simp; omega)
            go_wp2_with fail
            go_round
            case measure => simp [intOf]; omega
            case rel => exact ⟨j + 1, n2 + 1, by omega, by go_num, by go_num, by omega, HM.out⟩
        · have HM : Hid (N = n2 + cntO op (T.drop (k + 1))) := hn.out.trans (by rw [drop_nil hlt2, HR.out]; simp)
          clear hn
          go_wp2_with fail
          go_round
          case measure => simp [intOf]; omega
          case rel => exact ⟨k + 1, n2, by omega, by go_num, rfl, by omega, HM.out⟩
    · have HM : Hid (N = n) := hn.out.trans (by rw [drop_nil hlt]; rfl)
      clear hn htc hta ht
      go_wp2_with fail
      go_ret
      exact ⟨by rw [HM.out]; rfl, hbW⟩

end Go.Proofs.Ytomijmikkbhgmab

namespace Go.Proofs.Ytomijmikkbhgmab
open Go.RowKit

theorem ret_cap {S n : Nat} (h : cap2 S = n) : Ending.returned (.int .i64 (n : Nat)) = .returned (.int .i64 (cap2 S : Nat)) := by rw [h]

set_option maxHeartbeats 2000000 in
theorem size_any (E : List Evt) (hE : E.length ≤ 96) (v : Value) (w : World) (h : Ev9At w v E) :
    Calls Try.prog 69 #[v] w fun e w' => e = .returned (.int .i64 (cap2 (sizeN E) : Nat)) ∧ Below w.heap.size w w' := by
  have HE : Hid (Ev9At w v E) := h
  obtain ⟨ao, b, off, cap, hv, ha, _, hc⟩ := h
  subst hv
  generalize hS : sizeN E = S
  have HS : Hid (sizeN E = S) := hS
  clear hS
  go_enter Try.func69, Try.ntmps69
  go_wp2_with fail
  go_loopw [3, 4] (fun u i wr => ∃ (k n : Nat), k ≤ E.length ∧ i = .int .i64 k ∧ u = .int .i64 n ∧ n ≤ 2000 ∧ Hid (S = n * (prodR E (E.drop k) * facL E 0)) ∧ Below w.heap.size w wr) (fun _ i _ => E.length - (intOf i).toNat)
  case atStart => exact ⟨0, 1, Nat.zero_le _, rfl, rfl, by omega, by rw [Nat.one_mul, List.drop_zero, ← sizeN_eq, HS.out]; exact rfl, Below.refl _ _⟩
  case round =>
    obtain ⟨k, n, hk, rfl, rfl, hn0, hn, hb⟩ := hrel
    by_cases hlt : k < E.length
    · obtain ⟨x, hx⟩ := get_of_lt hlt
      have hC := hc k x hx
      have hbl := hC.lt
      obtain rfl := ha (ne_nil hlt)
      obtain ⟨_, _, c2, c3, _, _, _, _, _⟩ := ev9C_keeps _ _ _ _ _ hb hC
      have HN : Hid (S = n * (prodR E (x :: E.drop (k + 1)) * facL E 0)) := by rw [← drop_cons hx]; exact hn
      clear hn hC ha hx
      have HC : Hid (∀ k x, E[k]? = some x → Ev9C w b (off + k * 9) x) := hc
      clear hc
      cases h1 : x.kind == 0
      · have HM : Hid (S = n * (prodR E (E.drop (k + 1)) * facL E 0)) := HN.out.trans (by rw [prodR_not h1])
        go_wp2_with fail
        go_roundw
        case measure => simp [intOf]; omega
        case rel => exact ⟨k + 1, n, by omega, by go_num, rfl, hn0, HM.out, hb⟩
      · have hwl := wrs_len E 0 x.loc
        have HM0 : Hid (S = n * ((1 + (wrs E 0 x.loc).length) * (prodR E (E.drop (k + 1)) * facL E 0))) := HN.out.trans (by rw [prodR_read h1, Nat.mul_assoc])
        generalize hW : wrs E 0 x.loc = W at hwl HM0
        have HW : Hid (wrs E 0 x.loc = W) := hW
        clear hW
        have hml := @mul_bd1 n W.length 2000 96 hn0 (by omega)
        obtain ⟨hm1, hm2⟩ := hml
        have HP : Hid (1 ≤ prodR E (E.drop (k + 1)) * facL E 0) := Nat.mul_le_mul (prodR_pos _ _) (facL_pos _ _)
        by_cases hbig : 2000 < (n : Int) * (1 + (W.length : Int))
        · have HR : Hid (cap2 S = 2001) := by
            rw [HM0.out, ← Nat.mul_assoc]
            refine cap2_big ?_ HP.out
            have e : ((n * (1 + W.length) : Nat) : Int) = (n : Int) * (1 + (W.length : Int)) := by simp
            omega
          go_wp2_with (go_at_call 82; refine (writesR_any E hE x.loc _ _ (HE.out.keep hb)).mono ?_; rw [HW.out]; rintro e w3 ⟨u2, rfl, hu2, hb3⟩; obtain ⟨ao4, b4, off4, cap4, ⟨hv4, ha4, _, hc4⟩, hb4⟩ := hu2; subst hv4)
          go_ret
          exact ⟨ret_cap HR.out, below_more hb hb3⟩
        · have HM : Hid (S = (n * (1 + W.length)) * (prodR E (E.drop (k + 1)) * facL E 0)) := HM0.out.trans (by rw [Nat.mul_assoc])
          go_wp2_with (go_at_call 82; refine (writesR_any E hE x.loc _ _ (HE.out.keep hb)).mono ?_; rw [HW.out]; rintro e w3 ⟨u2, rfl, hu2, hb3⟩; obtain ⟨ao4, b4, off4, cap4, ⟨hv4, ha4, _, hc4⟩, hb4⟩ := hu2; subst hv4)
          go_roundw
          case measure => simp [intOf]; omega
          case rel => exact ⟨k + 1, n * (1 + W.length), by omega, by go_num, by simp, by
              have e : ((n * (1 + W.length) : Nat) : Int) = (n : Int) * (1 + (W.length : Int)) := by simp
              omega, HM.out, below_more hb hb3⟩
    · have HM : Hid (S = n * facL E 0) := hn.out.trans (by rw [drop_nil hlt]; simp [prodR])
      clear hn hc ha
      go_wp2_with fail
      go_loopw [3, 6] (fun u i wr => ∃ (j n : Nat), j ≤ 3 ∧ i = .int .i64 j ∧ u = .int .i64 n ∧ n ≤ 2000 ∧ Hid (S = n * facL E j) ∧ Below w.heap.size w wr) (fun _ i _ => 3 - (intOf i).toNat)
      case atStart => exact ⟨0, n, by omega, rfl, rfl, hn0, HM.out, hb⟩
      case round =>
        clear HM hb hn0
        obtain ⟨j, n2, hj, rfl, rfl, hn0, hn, hb⟩ := hrel
        by_cases hlt2 : j < 3
        · have HM : Hid (S = n2 * (fac (wrs E 0 (j : Int)).length * facL E (j + 1))) := hn.out.trans (by rw [facL_step E j hlt2])
          have hwl := wrs_len E 0 (j : Int)
          generalize hW : wrs E 0 (j : Int) = W at hwl HM
          have HW : Hid (wrs E 0 (j : Int) = W) := hW
          clear hW hn
          go_wp2_with (go_at_call 82; refine (writesR_any E hE j _ _ (HE.out.keep hb)).mono ?_; rw [HW.out]; rintro e w3 ⟨u2, rfl, hu2, hb3⟩; obtain ⟨ao4, b4, off4, cap4, ⟨hv4, ha4, _, hc4⟩, hb4⟩ := hu2; subst hv4)
          have hb5 := below_more hb hb3
          clear hb3 hc4 ha4
          go_loop [3, 8] (fun u i => ∃ (k n : Nat), 2 ≤ k ∧ k ≤ 98 ∧ i = .int .i64 k ∧ u = .int .i64 n ∧ n ≤ 2000 ∧ Hid (S = n * (prodUp k (W.length + 1 - k) * facL E (j + 1)))) (fun _ i => 98 - (intOf i).toNat)
          case atStart => exact ⟨2, n2, by omega, by omega, rfl, rfl, hn0, HM.out.trans (by rw [prodUp_two])⟩
          case round =>
            clear HM hn0
            obtain ⟨k2, n3, hk2, hk98, rfl, rfl, hn0, hn⟩ := hrel
            by_cases hlt3 : k2 ≤ W.length
            · have HM0 : Hid (S = (n3 * k2) * (prodUp (k2 + 1) (W.length + 1 - (k2 + 1)) * facL E (j + 1))) := hn.out.trans (by rw [prodUp_step hlt3, Nat.mul_assoc, Nat.mul_assoc])
              obtain ⟨hm1, hm2⟩ := @mul_bd n3 k2 2000 98 hn0 (by omega)
              have HP : Hid (1 ≤ prodUp (k2 + 1) (W.length + 1 - (k2 + 1)) * facL E (j + 1)) := Nat.mul_le_mul (prodUp_pos _ _ (by omega)) (facL_pos _ _)
              have ec : ((n3 * k2 : Nat) : Int) = (n3 : Int) * (k2 : Int) := by simp
              have EC : Hid (((n3 * k2 : Nat) : Int) = (n3 : Int) * (k2 : Int)) := ec
              clear hn ec
              by_cases hbig : 2000 < (n3 : Int) * (k2 : Int)
              · have HR : Hid (cap2 S = 2001) := by
                  rw [HM0.out]
                  refine cap2_big ?_ HP.out
                  have e := EC.out
                  omega
                go_wp2_with fail
                go_ret
                exact ⟨ret_cap HR.out, hb5⟩
              · go_wp2_with fail
                go_round
                case measure => simp [intOf]; omega
                case rel => exact ⟨k2 + 1, n3 * k2, by omega, by omega, by go_num, by simp, by have e := EC.out; omega, HM0.out⟩
            · have HM1 : Hid (S = n3 * facL E (j + 1)) := hn.out.trans (by rw [prodUp_done hlt3, Nat.one_mul])
              clear hn
              go_wp2_with fail
              go_roundw
              case measure => simp [intOf]; omega
              case rel => exact ⟨j + 1, n3, by omega, by go_num, rfl, hn0, HM1.out, hb5⟩
        · have e3 : j = 3 := by omega
          subst e3
          have HR : Hid (cap2 S = n2) := by rw [hn.out, facL_three, Nat.mul_one]; exact cap2_of_le (by omega)
          clear hn
          go_wp2_with fail
          go_ret
          exact ⟨ret_cap HR.out, hb⟩

end Go.Proofs.Ytomijmikkbhgmab
