import Derived.Test.YtnpijgjedmiihaaT21
import Derived.Test.YtnpijgjedmiihaaQf
import Derived.Test.YtnpijgjedmiihaaLu
import Derived.Test.YtnpijgjedmiihaaT18
namespace Go.Proofs.Ytnpijgjedmiihaa
open Go.RowKit

theorem arw_cells {w : World} {v : Value} {A : List (Int × Int)} {ao : Option Addr} {b off cap : Nat} (h : SlAt w 2 ArwC v A ao b off cap) : ∀ ad, ao = some ad → ∀ j u, (A.flatMap arwV)[j]? = some u → w.cell? (ad.add j) = some u := by
  intro ad had j u hj
  have hne : A ≠ [] := by rintro rfl; simp at hj
  have h1 := h.ha hne
  rw [had] at h1
  cases h1
  have hlen := (List.getElem?_eq_some_iff.1 hj).1
  rw [flat_len arwV 2 (fun _ => rfl)] at hlen
  obtain ⟨x, hx⟩ := get_of_lt (l := A) (k := j / 2) (by omega)
  have hf := flat_get arwV 2 (fun _ => rfl) A (j / 2) (j % 2) x hx (by omega)
  rw [show j / 2 * 2 + j % 2 = j by omega, hj] at hf
  rw [Addr.add_lit]
  have hc := h.hc _ x hx
  rcases (by omega : j % 2 = 0 ∨ j % 2 = 1) with e | e
  · rw [e] at hf
    have : u = .int .i64 x.1 := by simpa [arwV] using hf
    rw [this, show off + j = off + j / 2 * 2 by omega]
    exact hc.c0
  · rw [e] at hf
    have : u = .int .i64 x.2 := by simpa [arwV] using hf
    rw [this, show off + j = off + j / 2 * 2 + 1 by omega]
    exact hc.c1

set_option maxRecDepth 20000 in
set_option maxHeartbeats 600000 in
theorem spanning0_any (E : List Evt) (hE : E.length ≤ 96) (hno : (thoL 2 E 0).length = 0 ∨ (thoL 4 E 0).length = 0) (A : List (Int × Int)) (hA : Arws E.length A) (hl : A.length ≤ 100000) (hcyc : ¬ Cyc E.length A) (v u : Value) (w : World) (hev : Ev9At w v E) (hu : ArwAt w u A) :
    Calls Try.prog 89 #[v, u] w fun e w' => e = .returned (.bool false) ∧ Below w.heap.size w w' := by
  have HT : Hid (∀ w', Below w.heap.size w w' → ∀ kd : Int, Calls Try.prog 112 #[v, .int .i64 kd] w' fun e w'' => ∃ u, e = .returned u ∧ IntNew w'.heap.size w'' u (thoL kd E 0) ∧ Below w'.heap.size w' w'') := fun w' hb kd => those_any E hE kd v w' (hev.keep hb)
  have HC0 : Hid (∀ (w' : World) (u : Value), ArwAt w' u A → Calls Try.prog 88 #[.int .i64 E.length, u] w' fun e w'' => e = .returned (.bool false) ∧ Below w'.heap.size w' w'') := fun w' u hu =>
    (circle_any E.length (by omega) A hA (by omega) u w' hu).mono fun e w'' ⟨b, he, hb, hbw⟩ => ⟨he.trans (by cases b with
      | false => rfl
      | true => exact absurd (hb.1 rfl) hcyc), hbw⟩
  have HU : Hid (ArwAt w u A) := hu
  obtain ⟨ao, b, off, cap, hv, _⟩ := hev
  obtain ⟨aoA, bA, offA, capA, hsA⟩ := hu
  have hvA := hsA.hv
  subst hv hvA
  have HSA : Hid (SlAt w 2 ArwC (.slice aoA A.length capA) A aoA bA offA capA) := hsA
  obtain ⟨i0, hi, hz0, hz1, hz2⟩ := info_parts Try.infoArw
  have HI : Hid (Try.prog.info? 132 = some i0 ∧ i0.zero = some (.agg #[.int .i64 0, .int .i64 0]) ∧ i0.size = 2 ∧ i0.bytes = 16) := ⟨hi, hz0, hz1, hz2⟩
  clear hi hz0 hz1 hz2 hsA hA hcyc
  have hz : ((thoL 2 E 0).length : Int) * ((thoL 4 E 0).length : Int) = 0 := by rcases hno with h | h <;> simp [h]
  clear hno
  have H2 := HT.out w (Below.refl _ _) 2
  go_enter Try.func89, Try.ntmps89
  go_wp2_with fail
  refine H2.mono ?_
  clear H2
  rintro e w2 ⟨u2, rfl, hu2, hb2⟩
  obtain ⟨ao2, b2, off2, cap2, ⟨hv2, _, _, _⟩, _⟩ := hu2
  subst hv2
  go_wp2_with fail
  refine (HT.out w2 hb2 3).mono ?_
  rintro e w3 ⟨u3, rfl, hu3, hb3⟩
  have hbw3 := below_more hb2 hb3
  clear hu3 hb2 hb3
  go_wp2_with fail
  refine (HT.out w3 hbw3 4).mono ?_
  rintro e w4 ⟨u4, rfl, hu4, hb4⟩
  obtain ⟨ao4, b4, off4, cap4, ⟨hv4, _, _, _⟩, _⟩ := hu4
  subst hv4
  have hbw4 := below_more hbw3 hb4
  clear hb4 hbw3
  generalize thoL 2 E 0 = L2 at *
  generalize thoL 4 E 0 = L4 at *
  go_wp2_with fail
  go_loopw [9] (fun i wr => i = .int .i64 0 ∧ Below w4.heap.size w4 wr) (fun _ _ => 0)
  case atStart => exact ⟨rfl, Below.refl _ _⟩
  case round =>
    obtain ⟨rfl, hb⟩ := hrel
    have hbw := below_more hbw4 hb
    have HS2 : Hid (SlAt wr 2 ArwC (.slice aoA A.length capA) A aoA bA offA capA) := HSA.out.keep arwC_keeps hbw
    have hsz := hbw.size
    go_wp2_with (at_builtin; refine append_new _ rfl _ _ 116 rfl w.heap.size 132 i0 (.agg #[.int .i64 0, .int .i64 0]) 2 16 Try.underlying116 HI.out.1 HI.out.2.1 HI.out.2.2.1 HI.out.2.2.2 rfl (by decide) (.slice none 0 0) 0 [] rfl (World.ownsRow_nil _ _ _ _) aoA A.length capA (A.flatMap arwV) rfl (fun h => by have := HS2.out.hn h; exact ⟨by rw [this.1]; rfl, this.2⟩) (flat_len arwV 2 (fun _ => rfl) A) (arw_cells HS2.out) (by intro u hu; obtain ⟨p, _, hp⟩ := List.mem_flatMap.1 hu; simp [arwV] at hp; rcases hp with rfl | rfl <;> rfl) (by unfold maxLen; omega) (by omega) hsz ?_)
    intro u' w5 hown' hgrow _
    have hb5 : Below w.heap.size w w5 := Below.grown hbw hgrow hsz (fun kk e => by cases e)
    have HA5 : Hid (ArwAt w5 u' A) := by
      have h1 : ArwOwn w.heap.size w5 u' A := by unfold ArwOwn; simpa using hown'
      exact h1.at'
    clear hgrow hown'
    go_wp2_with fail
    go_loopw [10, 11] (fun u i wr => u = u' ∧ i = .int .i64 0 ∧ Below w5.heap.size w5 wr) (fun _ _ _ => 0)
    case atStart => exact ⟨rfl, rfl, Below.refl _ _⟩
    case round =>
      obtain ⟨hu10, rfl, hb6⟩ := hrel
      subst hu10
      go_wp2_with fail
      refine (HC0.out _ _ (HA5.out.keep hb6)).mono ?_
      rintro e w7 ⟨rfl, hb7⟩
      go_wp2_with fail
      go_ret
      exact ⟨rfl, below_more (below_more hb5 hb6) hb7⟩

/-- What Judge answers: Incoherent, Torn, Circular, Spanning or Allowed. -/
def JudIs (P : Prop) (t : Bool) (Q S : Prop) (r : Int) : Prop := (r = 1 ∧ P) ∨ (¬ P ∧ ((r = 2 ∧ t = true) ∨ (t = false ∧ ((r = 3 ∧ Q) ∨ (¬ Q ∧ ((r = 4 ∧ S) ∨ (¬ S ∧ r = 0)))))))

theorem JudIs.one {P : Prop} {t : Bool} {Q S : Prop} {r r' : Int} (h : JudIs P t Q S r) (k : JudIs P t Q S r') : r = r' := by
  rcases h with ⟨h1, h2⟩ | ⟨h2, ⟨h1, h3⟩ | ⟨h3, ⟨h1, h4⟩ | ⟨h4, ⟨h1, h5⟩ | ⟨h5, h1⟩⟩⟩⟩ <;>
  rcases k with ⟨k1, k2⟩ | ⟨k2, ⟨k1, k3⟩ | ⟨k3, ⟨k1, k4⟩ | ⟨k4, ⟨k1, k5⟩ | ⟨k5, k1⟩⟩⟩⟩ <;>
  first
    | exact h1.trans k1.symm
    | exact absurd ‹P› ‹¬ P›
    | exact absurd ‹Q› ‹¬ Q›
    | exact absurd ‹S› ‹¬ S›
    | (rw [h3] at k3; cases k3)

/-- The document's notions. -/
def cohA (E : List Evt) (x : Exe) : List (Int × Int) := arwL E x ++ allD (pairB E cohP) E.length E.length
def kepA (T : List (List Ins)) (E : List Evt) (x : Exe) : List (Int × Int) := arwL E x ++ allD (pairB E (keepP T E)) E.length E.length

theorem kepA_len {T : List (List Ins)} {E : List Evt} {x : Exe} (hE : E.length ≤ 96) (hX : XOk E x) : (kepA T E x).length ≤ 100000 := by
  unfold kepA
  rw [List.length_append]
  have h1 := arwL_len hE hX
  have h2 := allD_len (pairB E (keepP T E)) E.length E.length
  have h3 : E.length * E.length ≤ 96 * 96 := Nat.mul_le_mul hE hE
  omega

set_option maxRecDepth 20000 in
set_option maxHeartbeats 1000000 in
theorem judge0_any (T : List (List Ins)) (hS : Short T) (fa : Bool) (c : List Atm) (vt vc : Value) (E : List Evt) (hE : E.length ≤ 96) (hin : EvsIn T E) (hloc : ∀ y ∈ E, locB y.loc = true) (hno : (thoL 2 E 0).length = 0 ∨ (thoL 4 E 0).length = 0) (x : Exe) (hX : XOk E x) (v vf vo : Value) (w : World) (ht : TestAt w (.agg #[vt, .bool fa, vc]) T fa c vt vc) (hev : Ev9At w v E) (hx : ExeC w vf vo x) :
    Calls Try.prog 63 #[.agg #[vt, .bool fa, vc], v, .agg #[vf, vo]] w fun e w' => ∃ r : Int, e = .returned (.int .i64 r) ∧ JudIs (Cyc E.length (cohA E x)) (tornB E x) (Cyc E.length (kepA T E x)) False r ∧ Below w.heap.size w w' := by
  have HI : Hid (∀ w', Below w.heap.size w w' → Calls Try.prog 85 #[v, .agg #[vf, vo]] w' fun e w'' => ∃ b : Bool, e = .returned (.bool b) ∧ (b = true ↔ Cyc E.length (cohA E x)) ∧ Below w'.heap.size w' w'') := fun w' hb => incoherent_any E hE hloc x hX v vf vo w' (hev.keep hb) (hx.keep hb)
  have HT : Hid (∀ w', Below w.heap.size w w' → Calls Try.prog 86 #[v, .agg #[vf, vo]] w' fun e w'' => e = .returned (.bool (tornB E x)) ∧ Below w'.heap.size w' w'') := fun w' hb => torn_any E hE hloc x hX v vf vo w' (hev.keep hb) (hx.keep hb)
  have HK : Hid (∀ w', Below w.heap.size w w' → Calls Try.prog 87 #[.agg #[vt, .bool fa, vc], v, .agg #[vf, vo]] w' fun e w'' => ∃ u, e = .returned u ∧ ArwOwn w'.heap.size w'' u (kepA T E x) ∧ Below w'.heap.size w' w'') := fun w' hb => kept_any T hS fa c vt vc E hE hin hloc x hX v vf vo w' (ht.keep hb) (hev.keep hb) (hx.keep hb)
  have hkl := kepA_len (T := T) hE hX
  have har : Arws E.length (kepA T E x) := hX.ar.append (allD_arws _ _)
  have HC : Hid (∀ w' u, ArwAt w' u (kepA T E x) → Calls Try.prog 88 #[.int .i64 E.length, u] w' fun e w'' => ∃ b : Bool, e = .returned (.bool b) ∧ (b = true ↔ Cyc E.length (kepA T E x)) ∧ Below w'.heap.size w' w'') := fun w' u hu => circle_any E.length (by omega) _ har (by omega) u w' hu
  have HSP : Hid (∀ w' u, Below w.heap.size w w' → ¬ Cyc E.length (kepA T E x) → ArwAt w' u (kepA T E x) → Calls Try.prog 89 #[v, u] w' fun e w'' => e = .returned (.bool false) ∧ Below w'.heap.size w' w'') := fun w' u hb hn hu => spanning0_any E hE hno _ har hkl hn v u w' (hev.keep hb) hu
  obtain ⟨aof, capf, hvf⟩ := hx.f.form
  obtain ⟨aoo, bo, offo, capo, hso⟩ := hx.o
  have hvo := hso.hv
  obtain ⟨ao, b, off, cap, hv, ha, _, hc⟩ := hev
  subst hv hvf hvo
  have HJ : Hid (∀ r, JudIs (Cyc E.length (cohA E x)) (tornB E x) (Cyc E.length (kepA T E x)) False r ↔ JudIs (Cyc E.length (cohA E x)) (tornB E x) (Cyc E.length (kepA T E x)) False r) := fun _ => Iff.rfl
  generalize hP : Cyc E.length (cohA E x) = P at *
  generalize tornB E x = tb at *
  generalize hQ : Cyc E.length (kepA T E x) = Q at *
  generalize kepA T E x = KA at *
  clear hS hin hloc hno hX ht hx hc ha hso hkl har HJ hP hQ
  go_enter Try.func63, Try.ntmps63
  go_wp2_with fail
  refine (HI.out _ (below_two _ _ _)).mono ?_
  rintro e w2 ⟨b2, rfl, hi2, hb2⟩
  have hbw2 := below_more (below_two w (.cells #[vt, .bool fa, vc] 25) (.cells #[.slice aof x.from'.length capf, .slice aoo x.order.length capo] 40)) hb2
  have t0 := keep_cell hb2 (b := w.heap.size) (off := 0) (u := vt) (by simp)
  have t1 := keep_cell hb2 (b := w.heap.size) (off := 1) (u := .bool fa) (by simp)
  have t2 := keep_cell hb2 (b := w.heap.size) (off := 2) (u := vc) (by simp)
  have x0 := keep_cell hb2 (b := w.heap.size + 1) (off := 0) (u := .slice aof x.from'.length capf) (by simp)
  have x1 := keep_cell hb2 (b := w.heap.size + 1) (off := 1) (u := .slice aoo x.order.length capo) (by simp)
  have HP2 : Hid (b2 = true ↔ P) := hi2
  clear hi2
  cases b2
  · have hnP : ¬ P := fun h => by have := HP2.out.2 h; cases this
    have HNP : Hid (¬ P) := hnP
    clear hnP
    go_wp2_with fail
    refine (HT.out w2 hbw2).mono ?_
    rintro e w3 ⟨rfl, hb3⟩
    have hbw3 := below_more hbw2 hb3
    replace t0 := keep_cell hb3 t0
    replace t1 := keep_cell hb3 t1
    replace t2 := keep_cell hb3 t2
    replace x0 := keep_cell hb3 x0
    replace x1 := keep_cell hb3 x1
    cases tb
    · go_wp2_with fail
      refine (HK.out w3 hbw3).mono ?_
      rintro e w4 ⟨u4, rfl, hu4, hb4⟩
      have hbw4 := below_more hbw3 hb4
      have HU4 : Hid (ArwAt w4 u4 KA) := hu4.at'
      clear hu4
      go_wp2_with fail
      refine (HC.out w4 u4 HU4.out).mono ?_
      rintro e w5 ⟨b5, rfl, hi5, hb5⟩
      have hbw5 := below_more hbw4 hb5
      have HQ5 : Hid (b5 = true ↔ Q) := hi5
      clear hi5
      cases b5
      · have HNQ : Hid (¬ Q) := fun h => by have := HQ5.out.2 h; cases this
        go_wp2_with fail
        refine (HSP.out w5 u4 hbw5 HNQ.out (HU4.out.keep hb5)).mono ?_
        rintro e w6 ⟨rfl, hb6⟩
        go_wp2_with fail
        go_ret
        exact ⟨0, rfl, .inr ⟨HNP.out, .inr ⟨rfl, .inr ⟨HNQ.out, .inr ⟨id, rfl⟩⟩⟩⟩, below_more hbw5 hb6⟩
      · go_wp2_with fail
        go_ret
        exact ⟨3, rfl, .inr ⟨HNP.out, .inr ⟨rfl, .inl ⟨rfl, HQ5.out.1 trivial⟩⟩⟩, hbw5⟩
    · go_wp2_with fail
      go_ret
      exact ⟨2, rfl, .inr ⟨HNP.out, .inl ⟨rfl, rfl⟩⟩, hbw3⟩
  · go_wp2_with fail
    go_ret
    exact ⟨1, rfl, .inl ⟨rfl, HP2.out.1 trivial⟩, hbw2⟩

end Go.Proofs.Ytnpijgjedmiihaa

namespace Go.Proofs.Ytnpijgjedmiihaa
open Go.RowKit

theorem thoL_hit {x : Evt} {kd : Int} (h : (x.kind == kd) = true) (E : List Evt) (i : Nat) : thoL kd (x :: E) i = (i : Int) :: thoL kd E (i + 1) := by rw [thoL, if_pos h]
theorem thoL_mis {x : Evt} {kd : Int} (h : (x.kind == kd) = false) (E : List Evt) (i : Nat) : thoL kd (x :: E) i = thoL kd E (i + 1) := by rw [thoL, if_neg (by simp [h])]

set_option maxHeartbeats 1000000 in
theorem ofKind_any (E : List Evt) (hE : E.length ≤ 96) (kd : Int) (v : Value) (w : World) (h : Ev4At w v E) :
    Calls Try.prog 105 #[v, .int .i64 kd] w fun e w' => ∃ u, e = .returned u ∧ IntNew w.heap.size w' u (thoL kd E 0) ∧ Below w.heap.size w w' := by
  obtain ⟨ao, b, off, cap, hv, ha, _, hc⟩ := h
  subst hv
  obtain ⟨i0, hi, hz0, hz1, hz2⟩ := info_parts Try.info3
  have HI : Hid (Try.prog.info? 3 = some i0 ∧ i0.zero = some (.int .i64 0) ∧ i0.size = 1 ∧ i0.bytes = 8) := ⟨hi, hz0, hz1, hz2⟩
  clear hi hz0 hz1 hz2
  go_enter Try.func105, Try.ntmps105
  go_wp2_with fail
  go_loopw [5, 10] (fun u i wr => ∃ (k : Nat) (xs : List Int), k ≤ E.length ∧ i = .int .i64 k ∧ xs.length ≤ k ∧ Hid (thoL kd E 0 = xs ++ thoL kd (E.drop k) k) ∧ wr.ownsRow w.heap.size 3 1 u xs.length (xs.map (Value.int .i64)) ∧ Below w.heap.size w wr) (fun _ i _ => E.length - (intOf i).toNat)
  case atStart => exact ⟨0, [], Nat.zero_le _, rfl, Nat.le_refl _, rfl, World.ownsRow_nil _ _ _ _, Below.refl _ _⟩
  case round =>
    obtain ⟨k, xs, hk, rfl, hxk, hn, hown, hb⟩ := hrel
    by_cases hlt : k < E.length
    · obtain ⟨x, hx⟩ := get_of_lt hlt
      have hC := hc k x hx
      have hbl := hC.lt
      obtain rfl := ha (ne_nil hlt)
      obtain ⟨c0, c1, c2, c3⟩ := ev4C_keeps _ _ _ _ _ hb hC
      have HN : Hid (thoL kd E 0 = xs ++ thoL kd (x :: E.drop (k + 1)) k) := by rw [← drop_cons hx]; exact hn
      have hsz := hb.size
      clear hn hx hc hC ha
      cases h1 : x.kind == kd
      · have HM : Hid (thoL kd E 0 = xs ++ thoL kd (E.drop (k + 1)) (k + 1)) := HN.out.trans (by rw [thoL_mis h1])
        go_wp2_with fail
        go_roundw
        case measure => simp [intOf]; omega
        case rel => exact ⟨k + 1, xs, by omega, by go_num, by omega, HM.out, hown.alloc _, hb.alloc hb.size _⟩
      · have HM : Hid (thoL kd E 0 = (xs ++ [(k : Int)]) ++ thoL kd (E.drop (k + 1)) (k + 1)) := HN.out.trans (by rw [thoL_hit h1]; simp)
        go_wp2_with (at_builtin; refine wpList_append_own _ rfl _ _ 37 rfl w.heap.size 3 i0 (.int .i64 0) 1 8 Try.underlying37 HI.out.1 HI.out.2.1 HI.out.2.2.1 HI.out.2.2.2 rfl (by decide) _ _ _ rfl ((hown.alloc _).alloc _) ⟨wr.heap.size + 1, 0, none⟩ 1 1 [.int .i64 k] rfl rfl (new_one (by simp)) (by simp [Value.oneCell']) (by unfold maxLen; omega) (by omega) (by simp; omega) ?_)
        intro u' w1 hown' hgrow _
        have hb' : Below w.heap.size w w1 := Below.grown ((hb.alloc hsz _).alloc (by simp; omega) _) hgrow (by simp; omega) (fun kk e => (hown.lt kk e).1)
        clear hgrow hown
        go_wp2_with fail
        go_roundw
        case measure => simp [intOf]; omega
        case rel => exact ⟨k + 1, xs ++ [(k : Int)], by omega, by go_num, by simp; omega, HM.out, own_snoc hown', hb'⟩
    · have HM : Hid (thoL kd E 0 = xs) := hn.out.trans (by rw [drop_nil hlt]; simp [thoL])
      clear hn hc ha
      go_wp2_with fail
      go_ret
      exact ⟨_, rfl, by rw [HM.out]; exact owns_int hown, hb⟩

set_option maxRecDepth 20000 in
set_option maxHeartbeats 1000000 in
theorem meetings0_any (E : List Evt) (hE : E.length ≤ 96) (hno : (thoL 2 E 0).length = 0 ∨ (thoL 4 E 0).length = 0) (v : Value) (w : World) (h : Ev4At w v E) :
    Calls Try.prog 81 #[v] w fun e w' => e = .returned (.slice none 0 0) ∧ Below w.heap.size w w' := by
  have HT : Hid (∀ w', Below w.heap.size w w' → ∀ kd : Int, Calls Try.prog 105 #[v, .int .i64 kd] w' fun e w'' => ∃ u, e = .returned u ∧ IntNew w'.heap.size w'' u (thoL kd E 0) ∧ Below w'.heap.size w' w'') := fun w' hb kd => ofKind_any E hE kd v w' (h.keep hb)
  have hl2 : (thoL 2 E 0).length ≤ 96 := by
    have : ∀ (l : List Evt) (i : Nat), (thoL 2 l i).length ≤ l.length := by
      intro l
      induction l with
      | nil => intro i; simp [thoL]
      | cons x l ih => intro i; unfold thoL; split <;> simp <;> have := ih (i + 1) <;> omega
    exact Nat.le_trans (this E 0) hE
  obtain ⟨ao, b, off, cap, hv, _⟩ := h
  subst hv
  have H2 := HT.out w (Below.refl _ _) 2
  go_enter Try.func81, Try.ntmps81
  go_wp2_with fail
  refine H2.mono ?_
  clear H2
  rintro e w2 ⟨u2, rfl, hu2, hb2⟩
  obtain ⟨ao2, b2, off2, cap2, ⟨hv2, ha2, _, hc2⟩, _⟩ := hu2
  subst hv2
  have HC2 : Hid (∀ k x, (thoL 2 E 0)[k]? = some x → IntC w2 b2 (off2 + k * 1) x) := hc2
  clear hc2
  go_wp2_with fail
  refine (HT.out w2 hb2 3).mono ?_
  rintro e w3 ⟨u3, rfl, hu3, hb3⟩
  have hbw3 := below_more hb2 hb3
  clear hu3
  go_wp2_with fail
  refine (HT.out w3 hbw3 4).mono ?_
  rintro e w4 ⟨u4, rfl, hu4, hb4⟩
  obtain ⟨ao4, b4, off4, cap4, ⟨hv4, _, _, _⟩, _⟩ := hu4
  subst hv4
  have hbw4 := below_more hbw3 hb4
  go_wp2_with fail
  refine (HT.out w4 hbw4 5).mono ?_
  rintro e w5 ⟨u5', rfl, hu5, hb5⟩
  have hb25 : Below w2.heap.size w2 w5 := below_more (below_more hb3 hb4) hb5
  clear hu5 hb3 hb4 hb5 hbw3 hbw4
  generalize thoL 2 E 0 = L2 at *
  generalize thoL 4 E 0 = L4 at *
  go_wp2_with fail
  go_loopw [7, 22] (fun u i wr => ∃ k : Nat, k ≤ L2.length ∧ i = .int .i64 k ∧ u = .slice none 0 0 ∧ wr = w5) (fun _ i _ => L2.length - (intOf i).toNat)
  case atStart => exact ⟨0, Nat.zero_le _, rfl, rfl, rfl⟩
  case round =>
    obtain ⟨k, hk, rfl, rfl, hwr⟩ := hrel
    subst hwr
    by_cases hlt : k < L2.length
    · obtain ⟨x, hx⟩ := get_of_lt hlt
      obtain rfl := ha2 (ne_nil hlt)
      have q0 := intC_keeps _ _ _ _ _ hb25 (HC2.out k x hx)
      unfold IntC at q0
      rw [Nat.mul_one] at q0
      have hkI : (k : Int) < (L2.length : Int) := by omega
      have h4 : L4.length = 0 := by omega
      rw [h4]
      clear hx hno
      go_wp2_with fail
      clear q0
      go_loopw [7, 29] (fun u i wr2 => u = .slice none 0 0 ∧ i = .int .i64 0 ∧ wr2 = wr) (fun _ _ _ => 0)
      case atStart => exact ⟨rfl, rfl, rfl⟩
      case round =>
        obtain ⟨rfl, rfl, hwr⟩ := hrel
        subst hwr
        go_wp2_with fail
        go_roundw
        case measure => simp [intOf]; omega
        case rel => exact ⟨k + 1, by omega, by go_num, rfl, by first | rfl | trivial⟩
    · have hkI : (L2.length : Int) ≤ (k : Int) := by omega
      go_wp2_with fail
      go_ret
      exact ⟨rfl, below_more hb2 hb25⟩

theorem canBeParted0_any (n : Nat) (hn : n ≤ 96) (A : List (Int × Int)) (bl : Nat) (hcyc : ¬ Cyc n A) (w : World) (hm : MatAt w bl n A) :
    Calls Try.prog 82 #[.agg #[.int .i64 n, .slice (some ⟨bl, 0, none⟩) (n * n) (n * n)], .slice none 0 0] w fun e w' => e = .returned (.bool true) ∧ Below w.heap.size w w' := by
  have hba := below_alloc w (.cells #[.int .i64 n, .slice (some ⟨bl, 0, none⟩) (n * n) (n * n)] 107)
  have HST : Hid (SetAt (w.alloc (.cells #[.int .i64 n, .slice (some ⟨bl, 0, none⟩) (n * n) (n * n)] 107)) w.heap.size bl n A) := ⟨by simp, by simp, hm.keep hba, by have := hm.lt; omega⟩
  have HNC : Hid (¬ Cyc n A) := hcyc
  clear hm hcyc
  go_enter Try.func82, Try.ntmps82
  go_wp2_with fail
  refine (hasCircle_any n hn A _ bl _ HST.out).mono ?_
  rintro e w2 ⟨bb, rfl, hbb, hb2⟩
  cases bb
  · clear hbb
    go_wp2_with fail
    go_ret
    exact ⟨rfl, below_more hba hb2⟩
  · exact absurd (hbb.1 rfl) HNC.out

/-- The program's notions. -/
def exQ (E : List Evt) (x : Exe) : List (Int × Int) := allS (exF E (rankG E.length (srcL E x.from') x.order)) (fun j => (srcL E x.from').getD j 0) E.length E.length
def cohB (E : List Evt) (x : Exe) : List (Int × Int) := exQ E x ++ allU (pairB E cohQ) E.length
def kepQ (T : List (List Ins)) (E : List Evt) (x : Exe) : List (Int × Int) := exQ E x ++ allU (pairB E (keepQ T E)) E.length

theorem range_getD (S : List Int) (n : Nat) (h : S.length = n) : (List.range n).map (fun j => S.getD j 0) = S := by
  apply List.ext_getElem?
  intro i
  rw [List.getElem?_map]
  by_cases hi : i < n
  · rw [List.getElem?_eq_getElem (by simpa using hi)]
    simp only [List.getElem_range, Option.map_some]
    rw [List.getD, List.getElem?_eq_getElem (by omega)]
    rfl
  · rw [List.getElem?_eq_none (by simpa using hi), List.getElem?_eq_none (by omega)]; rfl

set_option maxRecDepth 20000 in
set_option maxHeartbeats 1000000 in
theorem of0_any (T : List (List Ins)) (hS : Short T) (vt : Value) (E : List Evt) (hE : E.length ≤ 96) (hin : EvsIn T E) (hno : (thoL 2 E 0).length = 0 ∨ (thoL 4 E 0).length = 0) (x : Exe) (hf : x.from'.length ≤ 96) (h3 : x.order.length ≤ 3) (h96 : ∀ l ∈ x.order, l.length ≤ 96) (hRb : ∀ i, i < E.length → 0 ≤ rankG E.length (srcL E x.from') x.order i ∧ rankG E.length (srcL E x.from') x.order i ≤ 1000) (v vf vo : Value) (w : World) (ht : ThrAt w vt T) (h : Ev4Cap w v E) (hx : ExeAt w vf vo x) :
    Calls Try.prog 61 #[vt, v, .agg #[vf, vo]] w fun e w' => ∃ r : Int, e = .returned (.int .i64 r) ∧ JudIs (Cyc E.length (cohB E x)) (tornQ (torQ E (rankG E.length (srcL E x.from') x.order)) E.length) (Cyc E.length (kepQ T E x)) False r ∧ Below w.heap.size w w' := by
  have HSR : Hid (∀ w', Below w.heap.size w w' → Calls Try.prog 74 #[v, vf] w' fun e w'' => e = .returned (.slice (some ⟨w'.heap.size, 0, none⟩) E.length E.length) ∧ Row w' w'' w'.heap.size E.length (fun j => (srcL E x.from').getD j 0)) := fun w' hb => sourcesJ_any E hE x.from' hf v vf w' (h.at'.keep hb) (hx.f.keep hb)
  have hSl := srcL_len E x.from'
  have HRK : Hid (∀ w' vs, Below w.heap.size w w' → IntAt w' vs (srcL E x.from') → Calls Try.prog 75 #[v, vs, vo] w' fun e w'' => e = .returned (.slice (some ⟨w'.heap.size, 0, none⟩) E.length E.length) ∧ Row w' w'' w'.heap.size E.length (rankG E.length (srcL E x.from') x.order)) := fun w' vs hb hs => ranks_any E hE (srcL E x.from') hSl x.order h3 h96 v vs vo w' (h.at'.keep hb) hs (hx.o.keep hb)
  have HM : Hid (∀ w', Below w.heap.size w w' → Calls Try.prog 81 #[v] w' fun e w'' => e = .returned (.slice none 0 0) ∧ Below w'.heap.size w' w'') := fun w' hb => meetings0_any E hE hno v w' (h.at'.keep hb)
  have HSQ : Hid ((List.range E.length).map (fun j => (srcL E x.from').getD j 0) = srcL E x.from') := range_getD _ _ hSl
  have HCB : Hid (cohB E x = allS (exF E (rankG E.length (srcL E x.from') x.order)) (fun j => (srcL E x.from').getD j 0) E.length E.length ++ allU (pairB E cohQ) E.length) := rfl
  have HKQ : Hid (kepQ T E x = allS (exF E (rankG E.length (srcL E x.from') x.order)) (fun j => (srcL E x.from').getD j 0) E.length E.length ++ allU (pairB E (keepQ T E)) E.length) := rfl
  have HEV : Hid (Ev4Cap w v E ∧ ThrAt w vt T ∧ Short T ∧ EvsIn T E) := ⟨h, ht, hS, hin⟩
  obtain ⟨aof, capf, hvf⟩ := hx.f.form
  obtain ⟨aoo, bo, offo, capo, hvo, _⟩ := hx.o
  obtain ⟨_, aoT, bT, offT, capT, hvT, _⟩ := ht
  obtain ⟨ao, b, off, cap, ⟨hv, _, _, _⟩, _⟩ := h
  subst hv hvf hvo hvT
  generalize rankG E.length (srcL E x.from') x.order = R at *
  generalize hSS : (fun j => (srcL E x.from').getD j 0) = S at *
  generalize srcL E x.from' = SL at *
  have HRB : Hid (∀ i, i < E.length → 0 ≤ R i ∧ R i ≤ 1000) := hRb
  clear hSS hSl hRb hx hno hS hin
  go_enter Try.func61, Try.ntmps61
  go_wp2_with fail
  have hba := below_alloc w (.cells #[.slice aof x.from'.length capf, .slice aoo x.order.length capo] 40)
  refine (HSR.out _ hba).mono ?_
  rintro e w2 ⟨rfl, hrow2⟩
  have hbw2 := below_more hba hrow2.hb
  have hI2 := hrow2.list
  rw [HSQ.out] at hI2
  have e0 := keep_cell hrow2.hb (b := w.heap.size) (off := 1) (u := .slice aoo x.order.length capo) (by simp)
  rw [World.size_alloc] at hI2 ⊢
  generalize w.heap.size + 1 = q2 at hI2 ⊢
  have HI2 : Hid (IntAt w2 (.slice (some ⟨q2, 0, none⟩) E.length E.length) SL) := hI2
  clear hrow2 hI2
  go_wp2_with fail
  refine (HRK.out w2 _ hbw2 HI2.out).mono ?_
  rintro e w3 ⟨rfl, hrow3⟩
  have hbw3 := below_more hbw2 hrow3.hb
  have hI3 := hrow3.list
  have HI23 : Hid (IntAt w3 (.slice (some ⟨q2, 0, none⟩) E.length E.length) ((List.range E.length).map S)) := by rw [HSQ.out]; exact HI2.out.keep hrow3.hb
  generalize w2.heap.size = q3 at hI3 ⊢
  have HI3 : Hid (IntAt w3 (.slice (some ⟨q3, 0, none⟩) E.length E.length) ((List.range E.length).map R)) := hI3
  have HEV3 : Hid (Ev4Cap w3 (.slice ao E.length cap) E) := HEV.out.1.keep hbw3
  clear hrow3 hI3 e0 HI2
  go_wp2_with fail
  refine (isIncoherent_any E hE S R _ _ _ w3 HEV3.out HI23.out HI3.out).mono ?_
  rw [← HCB.out]
  rintro e w4 ⟨b4, rfl, hi4, hb4⟩
  have hbw4 := below_more hbw3 hb4
  have HP : Hid (b4 = true ↔ Cyc E.length (cohB E x)) := hi4
  clear hi4
  cases b4
  · have HNP : Hid (¬ Cyc E.length (cohB E x)) := fun h => by have := HP.out.2 h; cases this
    go_wp2_with fail
    refine (isTorn_any E hE R HRB.out _ _ w4 (HEV3.out.keep hb4) (HI3.out.keep hb4)).mono ?_
    generalize htb : tornQ (torQ E R) E.length = tb
    have HTB : Hid (tornQ (torQ E R) E.length = tb) := htb
    clear htb
    rintro e w5 ⟨rfl, hb5⟩
    have hb45 := below_more hb4 hb5
    have hbw5 := below_more hbw4 hb5
    cases tb
    · go_wp2_with fail
      refine (executed_any E hE S R _ _ _ w5 (HEV3.out.keep hb45).at' (HI23.out.keep hb45) (HI3.out.keep hb45)).mono ?_
      rintro e w6 ⟨bl, rfl, hblw, hm6, hb6⟩
      have hbw6 := below_more hbw5 hb6
      have hba6 := below_alloc w6 (.cells #[.int .i64 E.length, .slice (some ⟨bl, 0, none⟩) (E.length * E.length) (E.length * E.length)] 107)
      have hst6 : SetAt (w6.alloc (.cells #[.int .i64 E.length, .slice (some ⟨bl, 0, none⟩) (E.length * E.length) (E.length * E.length)] 107)) w6.heap.size bl E.length (allS (exF E R) S E.length E.length) := ⟨by simp, by simp, hm6.keep hba6, by have := hm6.lt; omega⟩
      have HAK : Hid (Calls Try.prog 79 #[.pointer (some ⟨w6.heap.size, 0, none⟩), .slice aoT T.length capT, .slice ao E.length cap] (w6.alloc (.cells #[.int .i64 E.length, .slice (some ⟨bl, 0, none⟩) (E.length * E.length) (E.length * E.length)] 107)) fun e w' => ∃ r, e = .returned r ∧ SetAt w' w6.heap.size bl E.length (allS (exF E R) S E.length E.length ++ allU (pairB E (keepQ T E)) E.length) ∧ Only bl (w6.alloc (.cells #[.int .i64 E.length, .slice (some ⟨bl, 0, none⟩) (E.length * E.length) (E.length * E.length)] 107)) w') :=
        addKept_any T HEV.out.2.2.1 _ E hE HEV.out.2.2.2 _ _ w6.heap.size bl w5 _ (HEV.out.2.1.keep hbw5) (HEV.out.1.keep hbw5) (below_more hb6 hba6) hblw hst6
      clear hst6
      go_wp2_with fail
      refine HAK.out.mono ?_
      rw [← HKQ.out]
      rintro e w7 ⟨r7, rfl, hst7, hon7⟩
      have hbw7 : Below w.heap.size w w7 := (below_more hbw6 hba6).trans (hon7.below (by have := hbw5.size; omega) (below_more hbw6 hba6).size)
      generalize w6.heap.size = p6 at *
      have HST7 : Hid (SetAt w7 p6 bl E.length (kepQ T E x)) := hst7
      clear hst7 hon7 HAK hm6
      go_wp2_with fail
      refine (hasCircle_any E.length hE _ p6 bl w7 HST7.out).mono ?_
      rintro e w8 ⟨b8, rfl, hi8, hb8⟩
      have hbw8 := below_more hbw7 hb8
      have HQ8 : Hid (b8 = true ↔ Cyc E.length (kepQ T E x)) := hi8
      clear hi8
      cases b8
      · have HNQ : Hid (¬ Cyc E.length (kepQ T E x)) := fun h => by have := HQ8.out.2 h; cases this
        go_wp2_with fail
        refine (HM.out w8 hbw8).mono ?_
        rintro e w9 ⟨rfl, hb9⟩
        have hbw9 := below_more hbw8 hb9
        obtain ⟨s0, s1, hmat9, _⟩ := (HST7.out.keep hb8).keep hb9
        have HMT : Hid (MatAt w9 bl E.length (kepQ T E x)) := hmat9
        clear hmat9
        go_wp2_with fail
        refine (canBeParted0_any E.length hE _ bl HNQ.out w9 HMT.out).mono ?_
        rintro e w10 ⟨rfl, hb10⟩
        go_wp2_with fail
        go_ret
        exact ⟨0, rfl, .inr ⟨HNP.out, .inr ⟨HTB.out, .inr ⟨HNQ.out, .inr ⟨id, rfl⟩⟩⟩⟩, below_more hbw9 hb10⟩
      · go_wp2_with fail
        go_ret
        exact ⟨3, rfl, .inr ⟨HNP.out, .inr ⟨HTB.out, .inl ⟨rfl, HQ8.out.1 trivial⟩⟩⟩, hbw8⟩
    · go_wp2_with fail
      go_ret
      exact ⟨2, rfl, .inr ⟨HNP.out, .inl ⟨rfl, HTB.out⟩⟩, hbw5⟩
  · go_wp2_with fail
    go_ret
    exact ⟨1, rfl, .inl ⟨rfl, HP.out.1 trivial⟩, hbw4⟩

end Go.Proofs.Ytnpijgjedmiihaa
