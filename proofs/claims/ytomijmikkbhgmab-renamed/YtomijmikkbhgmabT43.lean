import Derived.Test.YtomijmikkbhgmabT42
import Derived.Test.YtomijmikkbhgmabT35
namespace Go.Proofs.Ytomijmikkbhgmab

theorem ren_pi {T T' : List (List Ins)} {σ : Nat → Nat} {k m : Int} (h : Ren T T' σ k m) : (∀ a, a < (evsT T 0).length → piE T T' σ a < (evsT T 0).length ∧ piE T' T σ (piE T T' σ a) = a) ∧ ∀ a, a < (evsT T 0).length → piE T' T σ a < (evsT T 0).length ∧ piE T T' σ (piE T' T σ a) = a := by
  have hl := ren_len h
  refine ⟨fun a ha => ⟨by have := piE_lt h ha; omega, piE_inv h ha⟩, fun a ha => ⟨?_, piE_inv h.symm (by omega)⟩⟩
  exact piE_lt h.symm (by omega)

theorem mt_mem {E : List Evt} {m : Mt} : m ∈ mtL (thoL 2 E 0) (thoL 3 E 0) (thoL 4 E 0) ↔ (m.b, m.e) ∈ (thoL 2 E 0).zip (thoL 3 E 0) ∧ m.s ∈ thoL 4 E 0 ∧ m.f = m.s + 1 := by
  unfold mtL
  rw [List.mem_flatMap]
  constructor
  · rintro ⟨p, hp, hm⟩
    obtain ⟨q, hq, rfl⟩ := List.mem_map.1 hm
    exact ⟨hp, hq, rfl⟩
  · rintro ⟨h1, h2, h3⟩
    refine ⟨(m.b, m.e), h1, List.mem_map.2 ⟨m.s, h2, ?_⟩⟩
    cases m
    simp only at h3
    rw [h3]

def mtP (T T' : List (List Ins)) (σ : Nat → Nat) (m : Mt) : Mt := ⟨piI T T' σ m.b, piI T T' σ m.e, piI T T' σ m.s, piI T T' σ m.f⟩

theorem mt_pi {T T' : List (List Ins)} {σ : Nat → Nat} {k m : Int} (h : Ren T T' σ k m) (hn : ∀ l ∈ T, nst l 0 false < 0) (hn' : ∀ l ∈ T', nst l 0 false < 0) {x : Mt} (hx : x ∈ mtL (thoL 2 (evsT T 0) 0) (thoL 3 (evsT T 0) 0) (thoL 4 (evsT T 0) 0)) : mtP T T' σ x ∈ mtL (thoL 2 (evsT T' 0) 0) (thoL 3 (evsT T' 0) 0) (thoL 4 (evsT T' 0) 0) := by
  rw [mt_mem] at hx ⊢
  obtain ⟨h1, h2, h3⟩ := hx
  -- the section
  have hsec : (piI T T' σ x.b, piI T T' σ x.e) ∈ (thoL 2 (evsT T' 0) 0).zip (thoL 3 (evsT T' 0) 0) := by
    obtain ⟨a, l, u, v, e1, e2, e3, e4⟩ := (zip_secs hn 0 0 _ _).1 h1
    rw [Nat.zero_add] at e3 e4
    have hu : ∃ (r : Nat) (y : Evt), (evsI a l 0)[r]? = some y ∧ u = (r : Int) := by
      obtain ⟨r, y, q1, _, q3⟩ := thoL_mem (kd := 2) (E := evsI a l 0) (i := 0) (a := u) (by rw [thoL_I 2 a 0]; exact (List.of_mem_zip e2).1)
      exact ⟨r, y, q1, by rw [q3]; simp⟩
    have hv : ∃ (r : Nat) (y : Evt), (evsI a l 0)[r]? = some y ∧ v = (r : Int) := by
      obtain ⟨r, y, q1, _, q3⟩ := thoL_mem (kd := 3) (E := evsI a l 0) (i := 0) (a := v) (by rw [thoL_I 3 a 0]; exact (List.of_mem_zip e2).2)
      exact ⟨r, y, q1, by rw [q3]; simp⟩
    obtain ⟨r, y, hy, rfl⟩ := hu
    obtain ⟨r', y', hy', rfl⟩ := hv
    have eb : x.b = ((offT T a + r : Nat) : Int) := by rw [e3]; unfold offT; omega
    have ee : x.e = ((offT T a + r' : Nat) : Int) := by rw [e4]; unfold offT; omega
    rw [eb, ee, piI_nat, piI_nat, piE_at e1 hy, piE_at e1 hy']
    refine (zip_secs hn' 0 0 _ _).2 ⟨σ a, _, (r : Int), (r' : Int), h.row a l e1, by rw [lzI_sw]; exact e2, ?_, ?_⟩
    · rw [Nat.zero_add]; unfold offT; omega
    · rw [Nat.zero_add]; unfold offT; omega
  refine ⟨hsec, ?_, ?_⟩
  · obtain ⟨s, y, q1, q2, q3⟩ := thoL_mem h2
    rw [Nat.zero_add] at q3
    show piI T T' σ x.s ∈ _
    rw [q3, piI_nat]
    have := thoL_in 0 (ren_ev h q1) q2
    rw [Nat.zero_add] at this
    exact this
  · obtain ⟨s, y, q1, q2, q3⟩ := thoL_mem h2
    rw [Nat.zero_add] at q3
    -- the Finish stands right behind the Start
    have hf : x.f ∈ thoL 5 (evsT T 0) 0 := by rw [done_T]; exact List.mem_map.2 ⟨x.s, h2, h3.symm⟩
    obtain ⟨f, z, f1, f2, f3⟩ := thoL_mem hf
    rw [Nat.zero_add] at f3
    have hfs : f = s + 1 := by omega
    subst hfs
    show piI T T' σ x.f = piI T T' σ x.s + 1
    rw [f3, q3, piI_nat, piI_nat]
    -- they are of one thread
    obtain ⟨a, l, r, a1, a2, a3, a4⟩ := ev_find q1
    have hs' : ((s : Nat) : Int) ∈ thoL 4 (evsT T 0) 0 := by rw [← q3]; exact h2
    have hth : z.thread = y.thread := by
      have hl4 : ((r : Nat) : Int) ∈ thoL 4 (evsI a l 0) 0 := by
        have := thoL_in 0 a2 q2
        rw [Nat.zero_add] at this
        exact this
      have hl5 : ((r : Nat) : Int) + 1 ∈ thoL 5 (evsI a l 0) 0 := by rw [done_I]; exact List.mem_map.2 ⟨_, hl4, rfl⟩
      obtain ⟨r', z', b1, _, b3⟩ := thoL_mem hl5
      rw [Nat.zero_add] at b3
      have : r' = r + 1 := by omega
      subst this
      have := ev_at a1 b1
      rw [← Nat.add_assoc, ← a3, f1] at this
      cases this
      rw [evsI_thread (List.mem_of_getElem? b1), a4]
    obtain ⟨a', l', r', a1', a2', a3', a4'⟩ := ev_find f1
    have haa : a' = a := by rw [a4', a4] at hth; omega
    subst haa
    rw [a1] at a1'
    cases a1'
    have hrr : r' = r + 1 := by omega
    subst hrr
    rw [a3', piE_at a1 a2', a3, piE_at a1 a2]
    omega

theorem parts_pi {T T' : List (List Ins)} {σ : Nat → Nat} {k m : Int} (h : Ren T T' σ k m) (hn : ∀ l ∈ T, nst l 0 false < 0) (hn' : ∀ l ∈ T', nst l 0 false < 0) {A A' : List (Int × Int)} (hA : ∀ a b : Nat, a < (evsT T 0).length → b < (evsT T 0).length → ((a : Int), (b : Int)) ∈ A' → ((piE T' T σ a : Int), (piE T' T σ b : Int)) ∈ A)
    (hP : Parts (evsT T 0).length (mtL (thoL 2 (evsT T 0) 0) (thoL 3 (evsT T 0) 0) (thoL 4 (evsT T 0) 0)) A) : Parts (evsT T 0).length (mtL (thoL 2 (evsT T' 0) 0) (thoL 3 (evsT T' 0) 0) (thoL 4 (evsT T' 0) 0)) A' := by
  rw [parts_iff] at hP ⊢
  obtain ⟨β, hC⟩ := hP
  -- the same choice
  have hex : ∀ i : Nat, ∃ b : Bool, ∀ x, (mtL (thoL 2 (evsT T' 0) 0) (thoL 3 (evsT T' 0) 0) (thoL 4 (evsT T' 0) 0))[i]? = some x → pick b (mtP T' T σ x) ∈ chS β (mtL (thoL 2 (evsT T 0) 0) (thoL 3 (evsT T 0) 0) (thoL 4 (evsT T 0) 0)) := fun i => by
    cases hi : (mtL (thoL 2 (evsT T' 0) 0) (thoL 3 (evsT T' 0) 0) (thoL 4 (evsT T' 0) 0))[i]? with
    | none => exact ⟨false, fun x hx => by cases hx⟩
    | some x =>
      have hm := mt_pi h.symm hn' hn (List.mem_of_getElem? hi)
      obtain ⟨c, hc⟩ := List.getElem?_of_mem hm
      exact ⟨β c, fun y hy => by cases hy; exact List.mem_of_getElem? (chS_get _ β c _ hc)⟩
  refine ⟨fun i => Classical.choose (hex i), fun hcyc => hC ?_⟩
  obtain ⟨p1, p2⟩ := ren_pi h
  refine cyc_pi p1 p2 (fun a b ha hb hab => ?_) hcyc
  rcases List.mem_append.1 hab with hab | hab
  · exact List.mem_append_left _ (hA a b ha hb hab)
  · refine List.mem_append_right _ ?_
    obtain ⟨i, hi⟩ := List.getElem?_of_mem hab
    have hil : i < (mtL (thoL 2 (evsT T' 0) 0) (thoL 3 (evsT T' 0) 0) (thoL 4 (evsT T' 0) 0)).length := by
      have := (List.getElem?_eq_some_iff.1 hi).1
      rw [chS_len] at this
      exact this
    obtain ⟨x, hx⟩ := get_of_lt hil
    rw [chS_get _ _ i x hx] at hi
    have hpk := Classical.choose_spec (hex i) x hx
    have hi' := Option.some.inj hi
    generalize Classical.choose (hex i) = bb at hpk hi'
    unfold pick at hpk hi'
    cases bb
    · simp only [Bool.false_eq_true, if_false] at hpk hi'
      have e1 : x.e = (a : Int) := congrArg (·.1) hi'
      have e2 : x.f = (b : Int) := congrArg (·.2) hi'
      unfold mtP at hpk
      rw [e1, e2, piI_nat, piI_nat] at hpk
      exact hpk
    · simp only [if_true] at hpk hi'
      have e1 : x.s = (a : Int) := congrArg (·.1) hi'
      have e2 : x.b = (b : Int) := congrArg (·.2) hi'
      unfold mtP at hpk
      rw [e1, e2, piI_nat, piI_nat] at hpk
      exact hpk

/-- Allowed here, allowed there. -/
theorem alw_pi {T T' : List (List Ins)} {σ : Nat → Nat} {k m : Int} (h : Rn T T' σ k m) (hn : ∀ l ∈ T, nst l 0 false < 0) (hn' : ∀ l ∈ T', nst l 0 false < 0) {x : Exe} (hx : IsEx (evsT T 0) x) (ha : Alw T (evsT T 0) x) : Alw T' (evsT T' 0) (phiX T T' σ k m x) := by
  have hx' := phi_isEx h hx
  obtain ⟨j1, j2, j3, _⟩ := judge_same' (T := T) (ms := []) rfl h.f.el h.f.locs hx
  have j4 := fun ms => (judge_same' (T := T) (ms := ms) rfl h.f.el h.f.locs hx).2.2.2
  obtain ⟨i1, i2, i3, _⟩ := judge_same' (T := T') (ms := []) rfl h.f'.el h.f'.locs hx'
  have i4 := fun ms => (judge_same' (T := T') (ms := ms) rfl h.f'.el h.f'.locs hx').2.2.2
  have hl := ren_len h.r
  obtain ⟨p1, p2⟩ := ren_pi h.r
  have hal := alB_iff.2 ha
  unfold alB at hal
  have h0 : ∀ n A, (!cycB n A) = true ↔ ¬ Cyc n A := fun n A => by rw [← cycB_iff (n := n) (A := A)]; simp
  simp only [Bool.and_eq_true, h0, partsB_iff, Bool.not_eq_true'] at hal
  obtain ⟨⟨⟨a1, a2⟩, a3⟩, a4⟩ := hal
  have ex : ∀ a b : Nat, a < (evsT T 0).length → b < (evsT T 0).length → ((a : Int), (b : Int)) ∈ exQ (evsT T' 0) (phiX T T' σ k m x) → ((piE T' T σ a : Int), (piE T' T σ b : Int)) ∈ exQ (evsT T 0) x := fun a b ha hb hab => by
    rw [← exQ_pi h hx (p2 a ha).1 (p2 b hb).1, (p2 a ha).2, (p2 b hb).2]
    exact hab
  have kq : ∀ a b : Nat, a < (evsT T 0).length → b < (evsT T 0).length → ((a : Int), (b : Int)) ∈ kepQ T' (evsT T' 0) (phiX T T' σ k m x) → ((piE T' T σ a : Int), (piE T' T σ b : Int)) ∈ kepQ T (evsT T 0) x := fun a b ha hb hab => by
    rcases List.mem_append.1 hab with q | q
    · exact List.mem_append_left _ (ex a b ha hb q)
    · refine List.mem_append_right _ (kep_pi h.r (p2 a ha).1 (p2 b hb).1 ?_)
      rw [(p2 a ha).2, (p2 b hb).2]
      exact q
  refine alB_iff.1 ?_
  unfold alB
  simp only [Bool.and_eq_true, h0, partsB_iff, Bool.not_eq_true']
  refine ⟨⟨⟨fun hc => a1 ?_, ?_⟩, fun hc => a3 ?_⟩, ?_⟩
  · rw [← j1]
    rw [← i1, hl] at hc
    refine cyc_pi p1 p2 (fun a b ha hb hab => ?_) hc
    rcases List.mem_append.1 hab with q | q
    · exact List.mem_append_left _ (ex a b ha hb q)
    · refine List.mem_append_right _ (coh_pi h.r (p2 a ha).1 (p2 b hb).1 ?_)
      rw [(p2 a ha).2, (p2 b hb).2]
      exact q
  · rw [← i2]
    rw [← j2] at a2
    cases ht : tornQ (torQ (evsT T' 0) (rankG (evsT T' 0).length (srcL (evsT T' 0) (phiX T T' σ k m x).from') (phiX T T' σ k m x).order)) (evsT T' 0).length
    · rfl
    · rw [torn_pi h hx ht] at a2
      cases a2
  · rw [← j3]
    rw [← i3, hl] at hc
    exact cyc_pi p1 p2 kq hc
  · have b4 := Classical.byContradiction fun hh => ((j4 _).1 hh) a4
    refine Classical.byContradiction fun hh => ?_
    refine ((i4 _).2 hh) ?_
    rw [hl]
    exact parts_pi h.r hn hn' kq b4

end Go.Proofs.Ytomijmikkbhgmab

namespace Go.Proofs.Ytomijmikkbhgmab

theorem fr_src {T : List (List Ins)} (hF : Fits T) {x : Exe} (hx : IsEx (evsT T 0) x) (d : Nat) (f : Int) : valN (evsT T 0) (frS (evsT T 0) x) d f = valN (evsT T 0) (srcS (evsT T 0) x) d f :=
  valN_congr (fun i y hy hk => (src_same hF.el hF.locs hx i y hy hk).symm) d f

theorem val_pi {T T' : List (List Ins)} {σ : Nat → Nat} {k m : Int} (h : Rn T T' σ k m) {x : Exe} (hx : IsEx (evsT T 0) x) (d : Nat) (f : Int) (hf : f = -1 ∨ ∃ a : Nat, f = (a : Int) ∧ a < (evsT T 0).length) : valN (evsT T' 0) (srcS (evsT T' 0) (phiX T T' σ k m x)) d (piI T T' σ f) = valN (evsT T 0) (srcS (evsT T 0) x) d f := by
  have hr := hx.ranks h.f.el h.f.locs
  induction d generalizing f with
  | zero => rfl
  | succ d ih =>
    rcases hf with rfl | ⟨a, rfl, ha⟩
    · rw [piI_neg, valN_neg _ _ _ (by omega), valN_neg _ _ _ (by omega)]
    · obtain ⟨y, hy⟩ := get_of_lt ha
      have hy' := ren_ev h.r hy
      rw [piI_nat]
      cases hk : y.kind == 0
      · cases ho : y.ins.op == 1
        · rw [valN_else hy hk ho, valN_else hy' hk (by rw [← ho]; exact congrArg (· == (1 : Int)) (swI_op k m y.ins))]
          exact swI_val k m y.ins
        · rw [valN_copy hy hk ho, valN_copy hy' hk (by rw [← ho]; exact congrArg (· == (1 : Int)) (swI_op k m y.ins)), cpy_src h.r hy]
          exact ih _ (srcG_lt y _ a)
      · rw [valN_read hy hk, valN_read hy' hk, phi_src h hx ha]
        refine ih _ ?_
        rcases hr.read a y hy (by simpa using hk) with ⟨s1, _⟩ | ⟨b, _, s1, s2, _, _⟩
        · exact .inl s1
        · exact .inr ⟨b, s1, s2⟩

theorem srcG_full (y : Evt) (E : List Evt) : srcG y E 0 (-1) = -1 ∨ ∃ a : Nat, srcG y E 0 (-1) = (a : Int) ∧ a < E.length := by
  have := srcG_lt y E E.length
  rw [List.take_length] at this
  exact this

theorem reg_pi {T T' : List (List Ins)} {σ : Nat → Nat} {k m : Int} (h : Rn T T' σ k m) {x : Exe} (hx : IsEx (evsT T 0) x) {a : Nat} (ha : a < T.length) (r : Nat) : regV (evsT T' 0) (frS (evsT T' 0) (phiX T T' σ k m x)) (σ a) r = regV (evsT T 0) (frS (evsT T 0) x) a r := by
  unfold regV
  rw [fr_src h.f' (phi_isEx h hx), fr_src h.f hx, ren_len h.r]
  have hs := srcG_pi h.r (y := evtOf (a : Int) (r : Int)) (y' := evtOf ((σ a : Nat) : Int) (r : Int)) ha rfl rfl rfl (evsT T 0).length (evsT T' 0).length (fun d z hz _ => by
    have h1 := (List.getElem?_eq_some_iff.1 hz).1
    have h2 := piE_lt h.r h1
    exact ⟨fun _ => h2, fun _ => h1⟩)
  rw [List.take_length, List.take_length] at hs
  rw [hs]
  exact val_pi h hx _ _ (srcG_full _ _)

theorem loc_pi {T T' : List (List Ins)} {σ : Nat → Nat} {k m : Int} (h : Rn T T' σ k m) {x : Exe} (hx : IsEx (evsT T 0) x) {l : Nat} (hl : l < 3) : locV (evsT T' 0) (frS (evsT T' 0) (phiX T T' σ k m x)) (phiX T T' σ k m x) l = locV (evsT T 0) (frS (evsT T 0) x) x (lamL k m (l : Int)).toNat := by
  have hjl : locB (l : Int) = true := by unfold locB; simp; omega
  have hlb := lamL_ok h.hk h.hm hjl
  have hr := hx.ranks h.f.el h.f.locs
  have e1 : (phiX T T' σ k m x).order.getD l [] = (ordAt x (lamL k m (l : Int))).map (piI T T' σ) := by
    have := phi_ord (T := T) (T' := T') (σ := σ) (k := k) (m := m) (x := x) hjl
    unfold ordAt at this ⊢
    rw [Int.toNat_natCast] at this
    exact this
  have e2 : x.order.getD (lamL k m (l : Int)).toNat [] = ordAt x (lamL k m (l : Int)) := rfl
  unfold locV
  rw [e1, e2, List.getLast?_map]
  cases hg : (ordAt x (lamL k m (l : Int))).getLast? with
  | none => rfl
  | some w =>
    obtain ⟨i, y, q1, q2, _, _⟩ := (hr.mem _ hlb w).1 (List.mem_of_getLast? hg)
    simp only [Option.map_some]
    rw [fr_src h.f' (phi_isEx h hx), fr_src h.f hx, ren_len h.r]
    exact val_pi h hx _ _ (.inr ⟨i, q2, (List.getElem?_eq_some_iff.1 q1).1⟩)

/-- A state, with threads and locations changed about. -/
def renS (n : Nat) (σ : Nat → Nat) (k m : Int) (s : List Int) : List Int := ((List.range n).flatMap fun a => (List.range 3).map fun r => s.getD (3 * σ a + r) 0) ++ (List.range 3).map fun l : Nat => s.getD (3 * n + (lamL k m (l : Int)).toNat) 0

theorem sta_reg {n : Nat} {f : Nat → Nat → Int} {g : Nat → Int} {a r : Nat} (ha : a < n) (hr : r < 3) : (((List.range n).flatMap fun a => (List.range 3).map (f a)) ++ (List.range 3).map g).getD (3 * a + r) 0 = f a r := by
  have hf := flat_get (fun a => (List.range 3).map (f a)) 3 (fun _ => by simp) (List.range n) a r a (by rw [List.getElem?_range ha]) hr
  have hlen : ((List.range n).flatMap fun a => (List.range 3).map (f a)).length = n * 3 := by rw [flat_len _ 3 (fun _ => by simp)]; simp
  rw [List.getD_eq_getElem?_getD, List.getElem?_append_left (by rw [hlen]; omega), Nat.mul_comm 3 a, hf, List.getElem?_map, List.getElem?_range hr]
  rfl
theorem sta_loc {n : Nat} {f : Nat → Nat → Int} {g : Nat → Int} {l : Nat} (hl : l < 3) : (((List.range n).flatMap fun a => (List.range 3).map (f a)) ++ (List.range 3).map g).getD (3 * n + l) 0 = g l := by
  have hlen : ((List.range n).flatMap fun a => (List.range 3).map (f a)).length = n * 3 := by rw [flat_len _ 3 (fun _ => by simp)]; simp
  rw [List.getD_eq_getElem?_getD, List.getElem?_append_right (by rw [hlen]; omega), hlen, show 3 * n + l - n * 3 = l by omega, List.getElem?_map, List.getElem?_range hl]
  rfl

theorem lam3 {k m : Int} (hk : locB k = true) (hm : locB m = true) {l : Nat} (hl : l < 3) : (lamL k m (l : Int)).toNat < 3 ∧ (((lamL k m (l : Int)).toNat : Nat) : Int) = lamL k m (l : Int) := by
  have := lamL_ok hk hm (l := (l : Int)) (by unfold locB; simp; omega)
  unfold locB at this
  simp only [Bool.and_eq_true, decide_eq_true_eq] at this
  omega

theorem flatMap_congr' {α β : Type} {l : List α} {f g : α → List β} (h : ∀ a ∈ l, f a = g a) : l.flatMap f = l.flatMap g := by
  induction l with
  | nil => rfl
  | cons a l ih => rw [List.flatMap_cons, List.flatMap_cons, h a (List.mem_cons_self ..), ih fun b hb => h b (List.mem_cons_of_mem _ hb)]

theorem stX_pi {T T' : List (List Ins)} {σ : Nat → Nat} {k m : Int} (h : Rn T T' σ k m) {x : Exe} (hx : IsEx (evsT T 0) x) : stX T' (evsT T' 0) (phiX T T' σ k m x) = renS T.length σ k m (stX T (evsT T 0) x) := by
  unfold stX staL renS
  rw [h.r.len]
  congr 1
  · refine flatMap_congr' fun a ha => ?_
    have ha' := List.mem_range.1 ha
    refine List.map_congr_left fun r hr => ?_
    obtain ⟨h1, h2⟩ := h.r.inv a ha'
    rw [sta_reg h1 (List.mem_range.1 hr)]
    have := reg_pi h hx h1 r
    rw [h2] at this
    exact this
  · refine List.map_congr_left fun l hl => ?_
    have hl' := List.mem_range.1 hl
    rw [sta_loc (lam3 h.hk h.hm hl').1]
    exact loc_pi h hx hl'

theorem renS_inv {n : Nat} {σ : Nat → Nat} {k m : Int} (hσ : ∀ a, a < n → σ a < n ∧ σ (σ a) = a) (hk : locB k = true) (hm : locB m = true) (f : Nat → Nat → Int) (g : Nat → Int) : renS n σ k m (renS n σ k m (((List.range n).flatMap fun a => (List.range 3).map (f a)) ++ (List.range 3).map g)) = ((List.range n).flatMap fun a => (List.range 3).map (f a)) ++ (List.range 3).map g := by
  generalize hs : ((List.range n).flatMap fun a => (List.range 3).map (f a)) ++ (List.range 3).map g = s
  have e : renS n σ k m s = ((List.range n).flatMap fun a => (List.range 3).map (fun r => s.getD (3 * σ a + r) 0)) ++ (List.range 3).map fun l : Nat => s.getD (3 * n + (lamL k m (l : Int)).toNat) 0 := rfl
  rw [show renS n σ k m (renS n σ k m s) = ((List.range n).flatMap fun a => (List.range 3).map (fun r => (renS n σ k m s).getD (3 * σ a + r) 0)) ++ (List.range 3).map fun l : Nat => (renS n σ k m s).getD (3 * n + (lamL k m (l : Int)).toNat) 0 from rfl, e, ← hs]
  congr 1
  · refine flatMap_congr' fun a ha => ?_
    have ha' := List.mem_range.1 ha
    refine List.map_congr_left fun r hr => ?_
    obtain ⟨h1, h2⟩ := hσ a ha'
    have hr' := List.mem_range.1 hr
    rw [sta_reg h1 hr', h2, sta_reg ha' hr']
  · refine List.map_congr_left fun l hl => ?_
    have hl' := List.mem_range.1 hl
    obtain ⟨q1, q2⟩ := lam3 hk hm hl'
    rw [sta_loc q1, q2, lamL_inv, Int.toNat_natCast, sta_loc hl']

end Go.Proofs.Ytomijmikkbhgmab

namespace Go.Proofs.Ytomijmikkbhgmab
open Go.RowKit

def addK : List (List Int × Nat) → List Int → List (List Int × Nat)
  | [], s => [(s, 1)]
  | p :: K, s => if p.1 == s then (p.1, p.2 + 1) :: K else p :: addK K s

/-- Is a state among those counted? -/
def hasK (K : List (List Int × Nat)) (s : List Int) : Bool := K.any fun p => p.1 == s

theorem hasK_iff {K : List (List Int × Nat)} {s : List Int} : hasK K s = true ↔ ∃ p ∈ K, p.1 = s := by
  unfold hasK
  rw [List.any_eq_true]
  simp

theorem addK_len (K : List (List Int × Nat)) (s : List Int) : (addK K s).length = K.length + if hasK K s then 0 else 1 := by
  induction K with
  | nil => simp [addK, hasK]
  | cons p K ih =>
    rw [addK]
    cases h : p.1 == s
    · rw [if_neg (by simp)]
      simp only [List.length_cons, ih]
      unfold hasK
      rw [List.any_cons, h, Bool.false_or]
      omega
    · rw [if_pos rfl]
      unfold hasK
      rw [List.any_cons, h, Bool.true_or]
      simp

theorem addK_has (K : List (List Int × Nat)) (s t : List Int) : hasK (addK K s) t = (hasK K t || s == t) := by
  induction K with
  | nil => simp [addK, hasK]
  | cons p K ih =>
    rw [addK]
    cases h : p.1 == s
    · rw [if_neg (by simp)]
      unfold hasK at ih ⊢
      rw [List.any_cons, List.any_cons, ih, Bool.or_assoc]
    · rw [if_pos rfl]
      have h1 : p.1 = s := by simpa using h
      unfold hasK
      rw [List.any_cons, List.any_cons, h1]
      cases s == t <;> simp

/-- Every count is that of its state. -/
def CntK (K : List (List Int × Nat)) (L : List (List Int)) : Prop := ∀ p ∈ K, p.2 = cnSt L p.1

theorem cnSt_cons (a : List Int) (L : List (List Int)) (t : List Int) : cnSt (a :: L) t = (if a == t then 1 else 0) + cnSt L t := by rw [cnSt]

theorem cnSt_app (L M : List (List Int)) (t : List Int) : cnSt (L ++ M) t = cnSt L t + cnSt M t := by
  induction L with
  | nil => simp [cnSt]
  | cons a L ih => rw [List.cons_append, cnSt_cons, cnSt_cons, ih]; omega

/-- States each once, and each with its count. -/
structure Sums (K : List (List Int × Nat)) (L : List (List Int)) : Prop where
  dis : K.Pairwise fun p q => p.1 ≠ q.1
  cnt : ∀ p ∈ K, p.2 = cnSt L p.1
  has : ∀ t, hasK K t = true ↔ t ∈ L

theorem addK_mem {K : List (List Int × Nat)} {s : List Int} {q : List Int × Nat} (h : q ∈ addK K s) : (q ∈ K ∧ q.1 ≠ s) ∨ (q.1 = s ∧ ((∃ p ∈ K, p.1 = s ∧ q.2 = p.2 + 1) ∨ ((∀ p ∈ K, p.1 ≠ s) ∧ q.2 = 1))) ∨ (q ∈ K ∧ ∃ a b, K = a ++ b ∧ q ∈ b ∧ ∃ p ∈ a, p.1 = s) := by
  induction K with
  | nil =>
    rw [addK] at h
    simp at h
    subst h
    exact .inr (.inl ⟨rfl, .inr ⟨fun p hp => (by cases hp), rfl⟩⟩)
  | cons p K ih =>
    rw [addK] at h
    cases hp : p.1 == s
    · rw [hp, if_neg (by simp)] at h
      have hps : p.1 ≠ s := by simpa using hp
      rcases List.mem_cons.1 h with rfl | h
      · exact .inl ⟨List.mem_cons_self, hps⟩
      · rcases ih h with ⟨h1, h2⟩ | ⟨h1, ⟨p', h2, h3⟩ | ⟨h2, h3⟩⟩ | ⟨h1, a, b, rfl, h3, p', h4, h5⟩
        · exact .inl ⟨List.mem_cons_of_mem _ h1, h2⟩
        · exact .inr (.inl ⟨h1, .inl ⟨p', List.mem_cons_of_mem _ h2, h3⟩⟩)
        · refine .inr (.inl ⟨h1, .inr ⟨fun x hx => ?_, h3⟩⟩)
          rcases List.mem_cons.1 hx with rfl | hx
          · exact hps
          · exact h2 x hx
        · exact .inr (.inr ⟨List.mem_cons_of_mem _ h1, p :: a, b, rfl, h3, p', List.mem_cons_of_mem _ h4, h5⟩)
    · rw [hp, if_pos rfl] at h
      have hps : p.1 = s := by simpa using hp
      rcases List.mem_cons.1 h with rfl | h
      · exact .inr (.inl ⟨hps, .inl ⟨p, List.mem_cons_self, hps, rfl⟩⟩)
      · exact .inr (.inr ⟨List.mem_cons_of_mem _ h, [p], K, rfl, h, p, List.mem_cons_self, hps⟩)

theorem addK_dis {K : List (List Int × Nat)} (h : K.Pairwise fun p q => p.1 ≠ q.1) (s : List Int) : (addK K s).Pairwise fun p q => p.1 ≠ q.1 := by
  induction K with
  | nil => simp [addK]
  | cons p K ih =>
    rw [List.pairwise_cons] at h
    rw [addK]
    cases hp : p.1 == s
    · rw [if_neg (by simp), List.pairwise_cons]
      refine ⟨fun q hq => ?_, ih h.2⟩
      have hps : p.1 ≠ s := by simpa using hp
      rcases addK_mem hq with ⟨h1, _⟩ | ⟨h1, _⟩ | ⟨h1, _⟩
      · exact h.1 q h1
      · rw [h1]; exact hps
      · exact h.1 q h1
    · rw [if_pos rfl, List.pairwise_cons]
      exact ⟨fun q hq => h.1 q hq, h.2⟩

theorem Sums.nil : Sums [] [] := ⟨List.Pairwise.nil, fun p hp => (by cases hp), fun t => by simp [hasK]⟩

theorem dis_split {a b : List (List Int × Nat)} (h : (a ++ b).Pairwise fun p q => p.1 ≠ q.1) {p q : List Int × Nat} (hp : p ∈ a) (hq : q ∈ b) : p.1 ≠ q.1 := (List.pairwise_append.1 h).2.2 p hp q hq

theorem cnSt_zero {L : List (List Int)} {t : List Int} (h : t ∉ L) : cnSt L t = 0 := by
  rcases Nat.eq_zero_or_pos (cnSt L t) with h0 | h0
  · exact h0
  · exact absurd (cnSt_pos.1 h0) h

theorem Sums.add {K : List (List Int × Nat)} {L : List (List Int)} (h : Sums K L) (s : List Int) : Sums (addK K s) (L ++ [s]) := by
  refine ⟨addK_dis h.dis s, fun q hq => ?_, fun t => ?_⟩
  · rw [cnSt_app, cnSt_cons, show cnSt [] q.1 = 0 from rfl, Nat.add_zero]
    rcases addK_mem hq with ⟨h1, h2⟩ | ⟨h1, ⟨p, h2, h3, h4⟩ | ⟨h2, h3⟩⟩ | ⟨h1, a, b, rfl, h3, p, h4, h5⟩
    · rw [if_neg (by simpa using fun e : s = q.1 => h2 e.symm), Nat.add_zero]
      exact h.cnt q h1
    · rw [h1, if_pos (by simp), h4, h.cnt p h2, h3]
    · have : s ∉ L := fun hm => by
        obtain ⟨p, hp, e⟩ := hasK_iff.1 ((h.has s).2 hm)
        exact h2 p hp e
      rw [h1, if_pos (by simp), h3, cnSt_zero this]
    · have hne := dis_split h.dis h4 h3
      rw [if_neg (by rw [← h5]; simpa using hne), Nat.add_zero]
      exact h.cnt q h1
  · rw [addK_has, Bool.or_eq_true, h.has t, List.mem_append, List.mem_singleton, beq_iff_eq]
    exact or_congr Iff.rfl eq_comm

/-- Two such countings are as long as each other. -/
theorem Sums.len {K K' : List (List Int × Nat)} {L : List (List Int)} (h : Sums K L) (hs : K'.Pairwise fun p q => p.1 ≠ q.1) (hh : ∀ t, hasK K' t = true ↔ t ∈ L) : K.length = K'.length := by
  have key : ∀ (A B : List (List Int)), A.Pairwise (· ≠ ·) → B.Pairwise (· ≠ ·) → (∀ t, t ∈ A ↔ t ∈ B) → A.length = B.length := by
    intro A B hA hB hAB
    exact ((List.perm_ext_iff_of_nodup hA hB).2 hAB).length_eq
  have := key (K.map (·.1)) (K'.map (·.1)) (List.pairwise_map.2 h.dis) (List.pairwise_map.2 hs) (fun t => by
    have h1 := h.has t
    have h2 := hh t
    rw [hasK_iff] at h1 h2
    simp only [List.mem_map]
    exact h1.trans h2.symm)
  simpa using this

theorem srt_dis {K : List (List Int × Nat)} (h : SrtK K) : K.Pairwise fun p q => p.1 ≠ q.1 := by
  rw [List.pairwise_iff_getElem]
  intro i j hi hj hij e
  have := srt_get h hij (List.getElem?_eq_getElem hi) (List.getElem?_eq_getElem hj)
  rw [e, ltL_irr] at this
  cases this

theorem sums_out {n : Nat} {K : List (List Int × Nat)} {L : List (List Int)} (hL : ∀ s ∈ L, s.length = n) (h : Sums K L) : K.length = (outK L).length ∧ ∀ p ∈ K, cnOu (outK L) p.1 = p.2 := by
  obtain ⟨s1, _, s3, s4⟩ := outK_spec hL
  refine ⟨h.len (srt_dis s1) fun t => ?_, fun p hp => by rw [s4, h.cnt p hp]⟩
  rw [hasK_iff, ← cnSt_pos, ← s4]
  constructor
  · rintro ⟨p, hp, rfl⟩
    rw [cnOu_at s1 hp]
    exact s3 p hp
  · intro h0
    exact cnOu_pos h0

end Go.Proofs.Ytomijmikkbhgmab
