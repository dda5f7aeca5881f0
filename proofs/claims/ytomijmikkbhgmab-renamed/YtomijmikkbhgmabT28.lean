import Derived.Test.YtomijmikkbhgmabT13
import Derived.Test.YtomijmikkbhgmabQd
import Derived.Test.YtomijmikkbhgmabT14
import Derived.Test.YtomijmikkbhgmabT24
import Derived.BigQuiet
import Derived.Deep.QuietTactic
import Derived.Test.YtomijmikkbhgmabT19
import Derived.Test.YtomijmikkbhgmabQf
import Derived.Test.YtomijmikkbhgmabLu
import Derived.Test.YtomijmikkbhgmabT26
import Derived.Test.YtomijmikkbhgmabT10
namespace Go.Proofs.Ytomijmikkbhgmab
open Go.RowKit

theorem int_cast_sub {a : Nat} (h : 1 ≤ a) : ((a : Int) - 1) = ((a - 1 : Nat) : Int) := by omega

/-- Circle's row: which events are gone. -/
structure Gon (w wr : World) (bT n : Nat) (g : Nat → Bool) : Prop where
  hb : Below w.heap.size w wr
  row : wr.rowIs bT 4 n (fun i => .bool (g i))
  n1 : w.heap.size ≤ bT

theorem Gon.set {w wr : World} {bT n : Nat} {g : Nat → Bool} (h : Gon w wr bT n g) (i : Nat) : Gon w (wr.setCell ⟨bT, i, none⟩ (.bool true)) bT n (take1 g i) := by
  refine ⟨h.hb.setCell h.n1 _, (h.row.set i _).congr fun j _ => ?_, h.n1⟩
  unfold take1
  by_cases e : j = i
  · simp [e]
  · simp [e]

end Go.Proofs.Ytomijmikkbhgmab

namespace Go.Proofs.Ytomijmikkbhgmab
open Go.RowKit

/-- An execution that fits its events. -/
structure XOk (E : List Evt) (x : Exe) : Prop where
  f : x.from'.length = (rdsX E 0).length
  o3 : x.order.length = 3
  l96 : ∀ l ∈ x.order, l.length ≤ 96
  ar : Arws E.length (arwL E x)

theorem flat_le {α β : Type} (f : α → List β) (m : Nat) (l : List α) (h : ∀ x ∈ l, (f x).length ≤ m) : (l.flatMap f).length ≤ l.length * m := by
  induction l with
  | nil => simp
  | cons a l ih =>
    rw [List.flatMap_cons, List.length_append, List.length_cons, Nat.add_mul]
    have h1 := h a (List.mem_cons_self ..)
    have h2 := ih (fun x hx => h x (List.mem_cons_of_mem _ hx))
    omega

theorem ordAt_len {E : List Evt} {x : Exe} (h : XOk E x) (loc : Int) : (ordAt x loc).length ≤ 96 := by
  unfold ordAt
  rw [List.getD]
  cases hg : x.order[loc.toNat]? with
  | none => simp
  | some l => exact h.l96 l (List.mem_of_getElem? hg)

theorem arwL_len {E : List Evt} (hE : E.length ≤ 96) {x : Exe} (h : XOk E x) : (arwL E x).length ≤ 40000 := by
  unfold arwL
  rw [List.length_append]
  have h1 := flat_le (arw1 x) 97 ((rdsX E 0).zip x.from') (fun q _ => by
    unfold arw1
    rw [List.length_append, fanL_len]
    have := restL_len (ordAt x q.1.2.loc) q.2
    have := ordAt_len h q.1.2.loc
    split <;> simp <;> omega)
  have h2 := flat_le tailsL 9216 x.order (fun l hl => by
    have h3 := tailsL_len l
    have h4 := h.l96 l hl
    have h5 : l.length * l.length ≤ 96 * 96 := Nat.mul_le_mul h4 h4
    omega)
  have h3 := rdsX_len E 0
  rw [List.length_zip] at h1
  rw [h.o3] at h2
  have h4 : min (rdsX E 0).length x.from'.length * 97 ≤ 96 * 97 := Nat.mul_le_mul_right 97 (by omega)
  omega

/-- P6: are they Reads or Writes of one location, and of one thread? -/
def cohP (_ _ : Nat) (a b : Evt) : Bool := memB a.kind && memB b.kind && a.thread == b.thread && a.loc == b.loc

end Go.Proofs.Ytomijmikkbhgmab

namespace Go.Proofs.Ytomijmikkbhgmab
open Go.RowKit

def headNe (l : List Int) (v : Int) : Bool := match l with
  | [] => true
  | a :: _ => a != v
/-- Is a Swap's Write not the first one behind what its Read reads from? -/
def torn1 (x : Exe) (q : (Nat × Evt) × Int) : Bool := q.1.2.ins.op == 3 && headNe (restL (ordAt x q.1.2.loc) q.2) ((q.1.1 : Int) + 1)
def tornB (E : List Evt) (x : Exe) : Bool := ((rdsX E 0).zip x.from').any (torn1 x)

end Go.Proofs.Ytomijmikkbhgmab

namespace Go.Proofs.Ytomijmikkbhgmab
open Go.RowKit

/-- P8: does the thread of both keep one ahead of the other? -/
def keepP (T : List (List Ins)) (E : List Evt) (i j : Nat) (a b : Evt) : Bool := a.thread == b.thread && keepB E i j (T.getD a.thread.toNat []) a b

theorem EvIn.same {T : List (List Ins)} {a b : Evt} {i p i' p' : Nat} {l l' : List Ins} (ha : EvIn T a i p l) (hb : EvIn T b i' p' l') (h : a.thread = b.thread) : i' = i ∧ l' = l := by
  have h1 := ha.th
  have h2 := hb.th
  have e : i' = i := by omega
  subst e
  have := ha.l0.symm.trans hb.l0
  exact ⟨rfl, (Option.some.inj this).symm⟩
theorem EvIn.getD {T : List (List Ins)} {a : Evt} {i p : Nat} {l : List Ins} (ha : EvIn T a i p l) : T.getD a.thread.toNat [] = l := by
  rw [ha.th, Int.toNat_natCast, List.getD, ha.l0]; rfl

end Go.Proofs.Ytomijmikkbhgmab

namespace Go.Proofs.Ytomijmikkbhgmab
open Go.RowKit

theorem arw_cells {w : World} {v : Value} {A : List (Int × Int)} {ao : Option Addr} {b off cap : Nat} (h : SlAt w 2 ArwC v A ao b off cap) : ∀ ad, ao = some ad → ∀ j u, (A.flatMap arwV)[j]? = some u → w.cell? (ad.add j) = some u := by
  intro ad had j u hj
  have hne : A ≠ [] := by rintro rfl; simp at hj
  have h1 := h.ha hne
  rw [had] at h1
  cases h1
  have hlen := (List.getElem?_eq_some_iff.1 hj).1
  rw [flat_len arwV 2 (fun _ => rfl)] at hlen
  obtain ⟨x, hx⟩ := get_of_lt (l := A) (k := j / 2) (by omega)
  have hf := flat_get arwV 2 (fun _ => rfl) A (j / 2) (j % 2) x hx (by omega)
  rw [show j / 2 * 2 + j % 2 = j by omega, hj] at hf
  rw [Addr.add_lit]
  have hc := h.hc _ x hx
  rcases (by omega : j % 2 = 0 ∨ j % 2 = 1) with e | e
  · rw [e] at hf
    have : u = .int .i64 x.1 := by simpa [arwV] using hf
    rw [this, show off + j = off + j / 2 * 2 by omega]
    exact hc.c0
  · rw [e] at hf
    have : u = .int .i64 x.2 := by simpa [arwV] using hf
    rw [this, show off + j = off + j / 2 * 2 + 1 by omega]
    exact hc.c1

/-- What Judge answers: Incoherent, Torn, Circular, Spanning or Allowed. -/
def JudIs (P : Prop) (t : Bool) (Q S : Prop) (r : Int) : Prop := (r = 1 ∧ P) ∨ (¬ P ∧ ((r = 2 ∧ t = true) ∨ (t = false ∧ ((r = 3 ∧ Q) ∨ (¬ Q ∧ ((r = 4 ∧ S) ∨ (¬ S ∧ r = 0)))))))

theorem JudIs.one {P : Prop} {t : Bool} {Q S : Prop} {r r' : Int} (h : JudIs P t Q S r) (k : JudIs P t Q S r') : r = r' := by
  rcases h with ⟨h1, h2⟩ | ⟨h2, ⟨h1, h3⟩ | ⟨h3, ⟨h1, h4⟩ | ⟨h4, ⟨h1, h5⟩ | ⟨h5, h1⟩⟩⟩⟩ <;>
  rcases k with ⟨k1, k2⟩ | ⟨k2, ⟨k1, k3⟩ | ⟨k3, ⟨k1, k4⟩ | ⟨k4, ⟨k1, k5⟩ | ⟨k5, k1⟩⟩⟩⟩ <;>
  first
    | exact h1.trans k1.symm
    | exact absurd ‹P› ‹¬ P›
    | exact absurd ‹Q› ‹¬ Q›
    | exact absurd ‹S› ‹¬ S›
    | (rw [h3] at k3; cases k3)

/-- The document's notions. -/
def cohA (E : List Evt) (x : Exe) : List (Int × Int) := arwL E x ++ allD (pairB E cohP) E.length E.length
def kepA (T : List (List Ins)) (E : List Evt) (x : Exe) : List (Int × Int) := arwL E x ++ allD (pairB E (keepP T E)) E.length E.length

theorem kepA_len {T : List (List Ins)} {E : List Evt} {x : Exe} (hE : E.length ≤ 96) (hX : XOk E x) : (kepA T E x).length ≤ 100000 := by
  unfold kepA
  rw [List.length_append]
  have h1 := arwL_len hE hX
  have h2 := allD_len (pairB E (keepP T E)) E.length E.length
  have h3 : E.length * E.length ≤ 96 * 96 := Nat.mul_le_mul hE hE
  omega

end Go.Proofs.Ytomijmikkbhgmab

namespace Go.Proofs.Ytomijmikkbhgmab
open Go.RowKit

theorem thoL_hit {x : Evt} {kd : Int} (h : (x.kind == kd) = true) (E : List Evt) (i : Nat) : thoL kd (x :: E) i = (i : Int) :: thoL kd E (i + 1) := by rw [thoL, if_pos h]
theorem thoL_mis {x : Evt} {kd : Int} (h : (x.kind == kd) = false) (E : List Evt) (i : Nat) : thoL kd (x :: E) i = thoL kd E (i + 1) := by rw [thoL, if_neg (by simp [h])]

set_option maxHeartbeats 1000000 in
theorem ofKind_any (E : List Evt) (hE : E.length ≤ 96) (kd : Int) (v : Value) (w : World) (h : Ev4At w v E) :
    Calls Try.prog 116 #[v, .int .i64 kd] w fun e w' => ∃ u, e = .returned u ∧ IntNew w.heap.size w' u (thoL kd E 0) ∧ Below w.heap.size w w' := by
  obtain ⟨ao, b, off, cap, hv, ha, _, hc⟩ := h
  subst hv
  obtain ⟨i0, hi, hz0, hz1, hz2⟩ := info_parts Try.info3
  have HI : Hid (Try.prog.info? 3 = some i0 ∧ i0.zero = some (.int .i64 0) ∧ i0.size = 1 ∧ i0.bytes = 8) := ⟨hi, hz0, hz1, hz2⟩
  clear hi hz0 hz1 hz2
  go_enter Try.func116, Try.ntmps116
  go_wp2_with fail
  go_loopw [5, 10] (fun u i wr => ∃ (k : Nat) (xs : List Int), k ≤ E.length ∧ i = .int .i64 k ∧ xs.length ≤ k ∧ Hid (thoL kd E 0 = xs ++ thoL kd (E.drop k) k) ∧ wr.ownsRow w.heap.size 3 1 u xs.length (xs.map (Value.int .i64)) ∧ Below w.heap.size w wr) (fun _ i _ => E.length - (intOf i).toNat)
  case atStart => exact ⟨0, [], Nat.zero_le _, rfl, Nat.le_refl _, rfl, World.ownsRow_nil _ _ _ _, Below.refl _ _⟩
  case round =>
    obtain ⟨k, xs, hk, rfl, hxk, hn, hown, hb⟩ := hrel
    by_cases hlt : k < E.length
    · obtain ⟨x, hx⟩ := get_of_lt hlt
      have hC := hc k x hx
      have hbl := hC.lt
      obtain rfl := ha (ne_nil hlt)
      obtain ⟨c0, c1, c2, c3⟩ := ev4C_keeps _ _ _ _ _ hb hC
      have HN : Hid (thoL kd E 0 = xs ++ thoL kd (x :: E.drop (k + 1)) k) := by rw [← drop_cons hx]; exact hn
      have hsz := hb.size
      clear hn hx hc hC ha
      cases h1 : x.kind == kd
      · have HM : Hid (thoL kd E 0 = xs ++ thoL kd (E.drop (k + 1)) (k + 1)) := HN.out.trans (by rw [thoL_mis h1])
        go_wp2_with fail
        go_roundw
        case measure => simp [intOf]; omega
        case rel => exact ⟨k + 1, xs, by omega, by go_num, by omega, HM.out, hown.alloc _, hb.alloc hb.size _⟩
      · have HM : Hid (thoL kd E 0 = (xs ++ [(k : Int)]) ++ thoL kd (E.drop (k + 1)) (k + 1)) := HN.out.trans (by rw [thoL_hit h1]; simp)
        go_wp2_with (at_builtin; refine wpList_append_own _ rfl _ _ 39 rfl w.heap.size 3 i0 (.int .i64 0) 1 8 Try.underlying39 HI.out.1 HI.out.2.1 HI.out.2.2.1 HI.out.2.2.2 rfl (by decide) _ _ _ rfl ((hown.alloc _).alloc _) ⟨wr.heap.size + 1, 0, none⟩ 1 1 [.int .i64 k] rfl rfl (new_one (by simp)) (by simp [Value.oneCell']) (by unfold maxLen; omega) (by omega) (by simp; omega) ?_)
        intro u' w1 hown' hgrow _
        have hb' : Below w.heap.size w w1 := Below.grown ((hb.alloc hsz _).alloc (by simp; omega) _) hgrow (by simp; omega) (fun kk e => (hown.lt kk e).1)
        clear hgrow hown
        go_wp2_with fail
        go_roundw
        case measure => simp [intOf]; omega
        case rel => exact ⟨k + 1, xs ++ [(k : Int)], by omega, by go_num, by simp; omega, HM.out, own_snoc hown', hb'⟩
    · have HM : Hid (thoL kd E 0 = xs) := hn.out.trans (by rw [drop_nil hlt]; simp [thoL])
      clear hn hc ha
      go_wp2_with fail
      go_ret
      exact ⟨_, rfl, by rw [HM.out]; exact owns_int hown, hb⟩

/-- The program's notions. -/
def exQ (E : List Evt) (x : Exe) : List (Int × Int) := allS (exF E (rankG E.length (srcL E x.from') x.order)) (fun j => (srcL E x.from').getD j 0) E.length E.length
def cohB (E : List Evt) (x : Exe) : List (Int × Int) := exQ E x ++ allU (pairB E cohQ) E.length
def kepQ (T : List (List Ins)) (E : List Evt) (x : Exe) : List (Int × Int) := exQ E x ++ allU (pairB E (keepQ T E)) E.length

theorem range_getD (S : List Int) (n : Nat) (h : S.length = n) : (List.range n).map (fun j => S.getD j 0) = S := by
  apply List.ext_getElem?
  intro i
  rw [List.getElem?_map]
  by_cases hi : i < n
  · rw [List.getElem?_eq_getElem (by simpa using hi)]
    simp only [List.getElem_range, Option.map_some]
    rw [List.getD, List.getElem?_eq_getElem (by omega)]
    rfl
  · rw [List.getElem?_eq_none (by simpa using hi), List.getElem?_eq_none (by omega)]; rfl

end Go.Proofs.Ytomijmikkbhgmab

namespace Go.Proofs.Ytomijmikkbhgmab
open Go.RowKit

/-- Of these reads, each with one of what it may read from, and no more. -/
def fromB (E0 : List Evt) : List Evt → List Int → Bool
  | [], F => F.isEmpty
  | y :: E, F => if y.kind == 0 then (match F with
    | [] => false
    | f :: F => (-1 :: wrs E0 0 y.loc).contains f && fromB E0 E F) else fromB E0 E F

theorem fromB_not {E0 : List Evt} {y : Evt} (h : (y.kind == 0) = false) (E : List Evt) (F : List Int) : fromB E0 (y :: E) F = fromB E0 E F := by simp [fromB, h]
theorem fromB_out {E0 : List Evt} {y : Evt} (h : (y.kind == 0) = true) (E : List Evt) : fromB E0 (y :: E) [] = false := by simp [fromB, h]
theorem fromB_read {E0 : List Evt} {y : Evt} (h : (y.kind == 0) = true) (E : List Evt) (f : Int) (F : List Int) : fromB E0 (y :: E) (f :: F) = ((-1 :: wrs E0 0 y.loc).contains f && fromB E0 E F) := by simp [fromB, h]

theorem fromB_eq (E0 : List Evt) (E : List Evt) (i : Nat) (F : List Int) : fromB E0 E F = (F.length == (rdsX E i).length && ((rdsX E i).zip F).all (okFrom E0)) := by
  induction E generalizing i F with
  | nil =>
    cases F with
    | nil => rfl
    | cons f F => rfl
  | cons y E ih =>
    cases h : y.kind == 0
    · rw [fromB_not h, rdsX_mis h]; exact ih (i + 1) F
    · rw [rdsX_hit h]
      cases F with
      | nil => rw [fromB_out h]; rfl
      | cons f F =>
        rw [fromB_read h, ih (i + 1) F, List.zip_cons_cons, List.all_cons]
        have e1 : (-1 :: wrs E0 0 y.loc).contains f = okFrom E0 ((i, y), f) := by
          unfold okFrom
          rw [List.contains_cons]
          exact Bool.or_comm _ _
        rw [e1]
        simp only [List.length_cons]
        have e2 : (F.length + 1 == (rdsX E (i + 1)).length + 1) = (F.length == (rdsX E (i + 1)).length) := by
          rw [Bool.eq_iff_iff]; simp
        rw [e2]
        cases okFrom E0 ((i, y), f) <;> cases (F.length == (rdsX E (i + 1)).length) <;> rfl

theorem exeB_eq (E : List Evt) (x : Exe) : exeB E x = (fromB E E x.from' && (x.order.length == 3 && (List.range' 0 3).all (okOrd E x))) := by
  unfold exeB
  rw [fromB_eq E E 0]
  generalize (x.from'.length == (rdsX E 0).length) = a
  generalize (x.order.length == 3) = b
  generalize ((rdsX E 0).zip x.from').all (okFrom E) = c
  generalize (List.range' 0 3).all (okOrd E x) = d
  cases a <;> cases b <;> cases c <;> cases d <;> rfl

end Go.Proofs.Ytomijmikkbhgmab

namespace Go.Proofs.Ytomijmikkbhgmab

theorem wrs_iff {E : List Evt} {loc a : Int} : a ∈ wrs E 0 loc ↔ ∃ (i : Nat) (y : Evt), E[i]? = some y ∧ a = (i : Int) ∧ y.kind = 1 ∧ y.loc = loc := by
  constructor
  · intro h
    obtain ⟨i, x, h1, h2, h3, h4⟩ := wrs_mem h
    exact ⟨i, x, h1, by rw [h2]; simp, h3, h4⟩
  · rintro ⟨i, y, h1, rfl, h3, h4⟩
    have hc := wrs_count (k := 0) (loc := loc) h1
    rw [Nat.zero_add, h3, h4] at hc
    simp at hc
    exact List.count_pos_iff.1 (by omega)

theorem wrs_nodup (E : List Evt) (loc : Int) : (wrs E 0 loc).Nodup := (wrs_sorted E 0 loc).imp fun h => by omega

/-- As many, and none is missing: then there are no others, and none stands twice. -/
theorem shuf_spec {l m : List Int} (hm : m.Nodup) (h : shufB l m = true) : l.Nodup ∧ ∀ a, a ∈ l ↔ a ∈ m := by
  unfold shufB at h
  simp only [Bool.and_eq_true, beq_iff_eq, List.all_eq_true] at h
  obtain ⟨h1, h2⟩ := h
  have hsub : ∀ x ∈ m, x ∈ l := fun x hx => by simpa using h2 x hx
  have key : ∀ (l m : List Int), m.Nodup → l.length = m.length → (∀ x ∈ m, x ∈ l) → l.Nodup ∧ ∀ a, a ∈ l → a ∈ m := by
    intro l
    induction l with
    | nil => intro m _ _ _; exact ⟨List.nodup_nil, fun a h => by cases h⟩
    | cons x l ih =>
      intro m hm hl hs
      have hxm : x ∈ m := by
        refine Classical.byContradiction fun hx => ?_
        have h3 : ∀ z ∈ m, z ∈ l := fun z hz => by
          rcases List.mem_cons.1 (hs z hz) with rfl | h
          · exact absurd hz hx
          · exact h
        have := nodup_le hm h3
        simp at hl; omega
      have hm2 : (m.erase x).Nodup := hm.erase x
      have hl2 : l.length = (m.erase x).length := by rw [List.length_erase_of_mem hxm]; simp at hl; omega
      have hs2 : ∀ z ∈ m.erase x, z ∈ l := fun z hz => by
        have hzx : z ≠ x := fun e => by
          subst e
          exact (List.Nodup.not_mem_erase hm) hz
        rcases List.mem_cons.1 (hs z (List.mem_of_mem_erase hz)) with rfl | h
        · exact absurd rfl hzx
        · exact h
      obtain ⟨k1, k2⟩ := ih (m.erase x) hm2 hl2 hs2
      refine ⟨List.nodup_cons.2 ⟨fun hx => (List.Nodup.not_mem_erase hm) (k2 x hx), k1⟩, fun a ha => ?_⟩
      rcases List.mem_cons.1 ha with rfl | ha
      · exact hxm
      · exact List.mem_of_mem_erase (k2 a ha)
  obtain ⟨k1, k2⟩ := key l m hm h1 hsub
  exact ⟨k1, fun a => ⟨k2 a, hsub a⟩⟩

/-- What an execution is. -/
structure IsEx (E : List Evt) (x : Exe) : Prop where
  f : x.from'.length = (rdsX E 0).length
  fw : ∀ q ∈ (rdsX E 0).zip x.from', q.2 = -1 ∨ q.2 ∈ wrs E 0 q.1.2.loc
  o3 : x.order.length = 3
  od : ∀ (j : Nat) (l : List Int), x.order[j]? = some l → l.Nodup ∧ ∀ a, a ∈ l ↔ a ∈ wrs E 0 (j : Int)

theorem isEx_of {E : List Evt} {x : Exe} (h : exeB E x = true) : IsEx E x := by
  unfold exeB at h
  simp only [Bool.and_eq_true, beq_iff_eq, List.all_eq_true] at h
  obtain ⟨⟨h1, h2⟩, h3, h4⟩ := h
  refine ⟨h1, fun q hq => ?_, h2, fun j l hl => ?_⟩
  · have := h3 q hq
    unfold okFrom at this
    simp only [Bool.or_eq_true, List.contains_iff_mem, beq_iff_eq] at this
    rcases this with h | h
    · exact .inr h
    · exact .inl h
  · have hj : j < 3 := by have := (List.getElem?_eq_some_iff.1 hl).1; omega
    have := h4 j (by rw [List.mem_range'_1]; omega)
    unfold okOrd at this
    rw [List.getD, hl] at this
    exact shuf_spec (wrs_nodup E _) this

theorem IsEx.len {E : List Evt} (hE : E.length ≤ 96) {x : Exe} (h : IsEx E x) {j : Nat} {l : List Int} (hl : x.order[j]? = some l) : l.length ≤ 96 := by
  obtain ⟨h1, h2⟩ := h.od j l hl
  have := nodup_le h1 (fun a ha => (h2 a).1 ha)
  have := wrs_len E 0 (j : Int)
  omega

theorem IsEx.xok {E : List Evt} (hE : E.length ≤ 96) (hloc : ∀ y ∈ E, locB y.loc = true) {x : Exe} (h : IsEx E x) : XOk E x := by
  have hw : ∀ {a loc : Int}, a ∈ wrs E 0 loc → ∃ i : Nat, i < E.length ∧ a = (i : Int) := fun ha => by
    obtain ⟨i, y, h1, h2, _⟩ := wrs_iff.1 ha
    exact ⟨i, (List.getElem?_eq_some_iff.1 h1).1, h2⟩
  have hl : ∀ l ∈ x.order, ∀ a ∈ l, ∃ i : Nat, i < E.length ∧ a = (i : Int) := fun l hl a ha => by
    obtain ⟨j, hj⟩ := List.mem_iff_getElem?.1 hl
    exact hw (((h.od j l hj).2 a).1 ha)
  refine ⟨h.f, h.o3, fun l hl => ?_, fun p hp => ?_⟩
  · obtain ⟨j, hj⟩ := List.mem_iff_getElem?.1 hl
    exact h.len hE hj
  · unfold arwL at hp
    rcases List.mem_append.1 hp with hp | hp
    · obtain ⟨q, hq, hp⟩ := List.mem_flatMap.1 hp
      obtain ⟨⟨r, y⟩, f⟩ := q
      have hr := rdsX_get (List.of_mem_zip hq).1
      have hrE : r < E.length := by have := (List.getElem?_eq_some_iff.1 hr.2).1; simpa using this
      unfold arw1 at hp
      rcases List.mem_append.1 hp with hp | hp
      · simp only at hp
        split at hp
        · cases hp
        · rename_i hf
          simp at hp
          subst hp
          rcases h.fw _ hq with h1 | h1
          · simp only at h1; rw [h1] at hf; simp at hf
          · obtain ⟨i, hi, e⟩ := hw h1
            simp only at e
            exact ⟨i, r, hi, hrE, by rw [e]⟩
      · obtain ⟨h1, h2⟩ := fanL_mem.1 hp
        have h3 := restL_mem h2
        have hyl := hloc y (List.mem_of_getElem? hr.2)
        obtain ⟨m, _, _, hog⟩ := ordAt_get h.o3 hyl
        obtain ⟨i, hi, e⟩ := hl _ (List.mem_of_getElem? hog) _ h3
        exact ⟨r, i, hrE, hi, by rw [← e, ← h1]⟩
    · obtain ⟨l, hlm, hp⟩ := List.mem_flatMap.1 hp
      obtain ⟨h1, h2⟩ := tailsL_mem hp
      obtain ⟨i, hi, e1⟩ := hl l hlm _ h1
      obtain ⟨k, hk, e2⟩ := hl l hlm _ h2
      exact ⟨i, k, hi, hk, by rw [← e1, ← e2]⟩

/-- The Reads with their sources, by their numbers. -/
theorem src_zip (E : List Evt) (F : List Int) (i : Nat) (hF : F.length = (rdsX E i).length) (r : Nat) (y : Evt) (f : Int) :
    ((r, y), f) ∈ (rdsX E i).zip F ↔ i ≤ r ∧ E[r - i]? = some y ∧ y.kind = 0 ∧ (srcL E F)[r - i]? = some f := by
  induction E generalizing F i with
  | nil => simp [rdsX]
  | cons x E ih =>
    have shift : ∀ {α : Type} (a : α) (l : List α) (b : α), i + 1 ≤ r → ((a :: l)[r - i]? = some b ↔ l[r - (i + 1)]? = some b) := fun a l b h => by
      rw [show r - i = (r - (i + 1)) + 1 by omega]; simp
    cases hk : x.kind == 0
    · rw [rdsX_mis hk] at hF ⊢
      rw [ih F (i + 1) hF, srcL_not hk]
      constructor
      · rintro ⟨h1, h2, h3, h4⟩
        exact ⟨by omega, (shift _ _ _ h1).2 h2, h3, (shift _ _ _ h1).2 h4⟩
      · rintro ⟨h1, h2, h3, h4⟩
        by_cases e : r = i
        · subst e
          rw [Nat.sub_self] at h2
          simp at h2
          subst h2
          rw [h3] at hk; simp at hk
        · have h1' : i + 1 ≤ r := by omega
          exact ⟨h1', (shift _ _ _ h1').1 h2, h3, (shift _ _ _ h1').1 h4⟩
    · rw [rdsX_hit hk] at hF ⊢
      cases F with
      | nil => simp at hF
      | cons f0 F =>
        rw [List.zip_cons_cons, List.mem_cons, ih F (i + 1) (by simpa using hF), srcL_read hk]
        constructor
        · rintro (e | ⟨h1, h2, h3, h4⟩)
          · simp only [Prod.mk.injEq] at e
            obtain ⟨⟨rfl, rfl⟩, rfl⟩ := e
            exact ⟨Nat.le_refl _, by simp, by simpa using hk, by simp⟩
          · exact ⟨by omega, (shift _ _ _ h1).2 h2, h3, (shift _ _ _ h1).2 h4⟩
        · rintro ⟨h1, h2, h3, h4⟩
          by_cases e : r = i
          · subst e
            rw [Nat.sub_self] at h2 h4
            simp at h2 h4
            subst h2 h4
            exact .inl rfl
          · have h1' : i + 1 ≤ r := by omega
            exact .inr ⟨h1', (shift _ _ _ h1').1 h2, h3, (shift _ _ _ h1').1 h4⟩

theorem src_other (E : List Evt) (F : List Int) (b : Nat) (y : Evt) (h : E[b]? = some y) (hk : y.kind ≠ 0) : (srcL E F)[b]? = some (-1) := by
  induction E generalizing F b with
  | nil => simp at h
  | cons x E ih =>
    cases b with
    | zero =>
      simp at h
      subst h
      rw [srcL_not (by simpa using hk)]
      rfl
    | succ b =>
      have h' : E[b]? = some y := by simpa using h
      cases hx : x.kind == 0
      · rw [srcL_not hx]; simpa using ih F b h'
      · cases F with
        | nil => rw [srcL_out hx]; simpa using ih [] b h'
        | cons f F => rw [srcL_read hx]; simpa using ih F b h'

end Go.Proofs.Ytomijmikkbhgmab
