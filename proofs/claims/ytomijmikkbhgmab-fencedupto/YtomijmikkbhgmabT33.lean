import Derived.Test.YtomijmikkbhgmabT32
import Derived.Test.YtomijmikkbhgmabT30
import Derived.Test.YtomijmikkbhgmabT29
import Derived.Test.YtomijmikkbhgmabT4
import Derived.Test.YtomijmikkbhgmabT22
import Derived.Laws.OwnMore
namespace Go.Proofs.Ytomijmikkbhgmab

/-- All threads are done. -/
def DoneM (T : List (List Ins)) (M : Mo) : Prop := ∀ i l, T[i]? = some l → M.pc i = 2 * l.length

/-- What is held in a moment: registers, then locations. -/
def tailM (n : Nat) (M : Mo) : List Int := ((List.range n).flatMap fun i => (List.range 3).map (M.rg i)) ++ (List.range 3).map M.lc

theorem mt_secs {T : List (List Ins)} (hn : ∀ l ∈ T, nst l 0 false < 0) {m : Mt} (hm : m ∈ mtL (thoL 2 (evsT T 0) 0) (thoL 3 (evsT T 0) 0) (thoL 4 (evsT T 0) 0)) : ∃ k b e i s f : Nat, SecAt T k b e ∧ SynAt T i s f ∧ m = ⟨(b : Int), (e : Int), (s : Int), (f : Int)⟩ := by
  obtain ⟨h1, h2, h3⟩ := mt_mem.1 hm
  obtain ⟨k, l, u, v, e1, e2, e3, e4⟩ := (zip_secs hn 0 0 _ _).1 h1
  rw [Nat.zero_add] at e3 e4
  obtain ⟨u', yb, q1, q2, q3⟩ := thoL_mem (kd := 2) (E := evsI k l 0) (i := 0) (a := u) (by rw [thoL_I 2 k 0]; exact (List.of_mem_zip e2).1)
  obtain ⟨v', ye, r1, r2, r3⟩ := thoL_mem (kd := 3) (E := evsI k l 0) (i := 0) (a := v) (by rw [thoL_I 3 k 0]; exact (List.of_mem_zip e2).2)
  rw [Nat.zero_add] at q3 r3
  subst q3 r3
  obtain ⟨s, ys, s1, s2, s3⟩ := thoL_mem h2
  rw [Nat.zero_add] at s3
  obtain ⟨i, r, li, ha⟩ := at_of s1
  have hl4 : ((r : Nat) : Int) ∈ thoL 4 (evsI i li 0) 0 := by
    have := thoL_in 0 ha.2.1 s2
    rw [Nat.zero_add] at this
    exact this
  have hl5 : ((r : Nat) : Int) + 1 ∈ thoL 5 (evsI i li 0) 0 := by rw [done_I]; exact List.mem_map.2 ⟨_, hl4, rfl⟩
  obtain ⟨r', yf, f1, f2, f3⟩ := thoL_mem hl5
  rw [Nat.zero_add] at f3
  have hrr : r' = r + 1 := by omega
  subst hrr
  refine ⟨k, offT T k + u', offT T k + v', i, s, s + 1, ⟨l, u', v', yb, ye, e2, ⟨e1, q1, rfl⟩, q2, ⟨e1, r1, rfl⟩, r2⟩, ⟨li, r, ys, yf, ha, s2, ⟨ha.1, f1, by have := ha.2.2; omega⟩, f2⟩, ?_⟩
  cases m
  simp only at e3 e4 s3 h3 ⊢
  rw [e3, e4, h3, s3]
  unfold offT
  simp only [Mt.mk.injEq]
  exact ⟨by omega, by omega, by first | rfl | trivial, by omega⟩

/-- The row of a run that is done. -/
theorem run_rowrun {T : List (List Ins)} {c : List Atm} (hz : ((chk T c).1 == 0) = true) {R : List Nat} {M : Mo} (h : Run T R M) (hd : DoneM T M) : RowOk (evsT T 0) R R.idxOf ∧ RowRun (evsT T 0) R.idxOf := by
  have hn := nstF_all (chk_nested hz).1
  have hok := run_ok h
  obtain ⟨r1, r2, r3⟩ := run_row hok hd
  have hsec := run_sec hn h
  exact ⟨r1, r2, r3, fun m hm => by
    obtain ⟨k, b, e, i, s, f, hs, hy, rfl⟩ := mt_secs hn hm
    have hmem : ∀ a, a < (evsT T 0).length → a ∈ R := fun a ha => r1.mem.2 ha
    have hbR : b ∈ R := by
      obtain ⟨_, _, _, _, _, _, q, _⟩ := hs
      exact hmem _ (List.getElem?_eq_some_iff.1 q.ev).1
    have hfR : f ∈ R := by
      obtain ⟨_, _, _, _, _, _, q, _⟩ := hy
      exact hmem _ (List.getElem?_eq_some_iff.1 q.ev).1
    simp only [keyT_nat]
    rcases hsec.fin k b e i s f hs hy hfR with q | q | q
    · exact .inl (sub2_idx hok.nd q)
    · exact absurd hbR q
    · exact .inr (sub2_idx hok.nd q)⟩

theorem evc_end (i : Nat) (l : List Ins) : evc l (2 * l.length) = (evsI i l 0).length := by
  unfold evc
  rw [show 2 * l.length / 2 = l.length by omega, show 2 * l.length % 2 = 0 by omega, List.take_length, evsI_len0 0 i l 0 0]
  rfl

/-- What a run that is done leaves is the state of what was read and written along its row. -/
theorem turns_state {T : List (List Ins)} {c : List Atm} (hz : ((chk T c).1 == 0) = true) {R : List Nat} {M : Mo} (h : Run T R M) (hd : DoneM T M) : stX T (evsT T 0) (rowX (evsT T 0) R R.idxOf) = tailM T.length M := by
  have hF := fits_of hz
  obtain ⟨r1, hrun⟩ := run_rowrun hz h hd
  have hV := valR_ok hF r1 hrun
  have hval := run_prefix hz r1 hV h [] (by simp)
  rw [rowX_state hF r1 hrun]
  unfold tailM
  congr 1
  · refine flatMap_congr' fun i hi => ?_
    have hiT := List.mem_range.1 hi
    obtain ⟨l, hl⟩ := get_of_lt hiT
    refine List.map_congr_left fun r hr => ?_
    rw [hval.rg i l hl r (List.mem_range.1 hr), hd i l hl]
    congr 1
    -- behind the thread's own events there are those of others
    rw [evc_end i l]
    rcases last_hit (evtOf (i : Int) (r : Int)) (evsT T 0) with hno | ⟨d, z, h1, h2, h3⟩
    · rw [srcG_nil0 _ _ _ _ hno, srcG_nil0]
      intro d z hz'
      have hdl := (List.getElem?_eq_some_iff.1 hz').1
      rw [List.length_take] at hdl
      rw [List.getElem?_take_of_lt (by omega)] at hz'
      exact hno d z hz'
    · have hdi : d < offT T i + (evsI i l 0).length := by
        obtain ⟨j, r', l', hat⟩ := at_of h1
        unfold hitB at h2
        simp only [Bool.and_eq_true, beq_iff_eq] at h2
        have ht : z.thread = (i : Int) := h2.1.2
        have := hat.th
        have hji : j = i := by omega
        subst hji
        have hl' := hat.1
        rw [hl] at hl'
        cases hl'
        have := hat.2.2
        have := (List.getElem?_eq_some_iff.1 hat.2.1).1
        omega
      rw [srcG_last _ _ 0 (-1) d z h1 h2 h3, srcG_last _ _ 0 (-1) d z (by rw [List.getElem?_take_of_lt hdi]; exact h1) h2 (fun d' z' hd' hz' => ?_)]
      have hdl := (List.getElem?_eq_some_iff.1 hz').1
      rw [List.length_take] at hdl
      rw [List.getElem?_take_of_lt (by omega)] at hz'
      exact h3 d' z' hd' hz'
  · refine List.map_congr_left fun l hl => ?_
    exact (hval.lc l (List.mem_range.1 hl)).symm

/-- Whatever comes out when the threads are run by turns is what an allowed candidate gives. -/
theorem turns_sound {T : List (List Ins)} {c : List Atm} (hz : ((chk T c).1 == 0) = true) {R : List Nat} {M : Mo} (h : Run T R M) (hd : DoneM T M) : ∃ n, n < sizeN (evsT T 0) ∧ Alw T (evsT T 0) (exN (evsT T 0) n) ∧ stX T (evsT T 0) (exN (evsT T 0) n) = tailM T.length M := by
  have hF := fits_of hz
  obtain ⟨r1, hrun⟩ := run_rowrun hz h hd
  obtain ⟨n, n1, n2⟩ := (rowX_isEx r1).mem
  exact ⟨n, n1, by rw [n2]; exact rowX_alw hF r1 hrun, by rw [n2]; exact turns_state hz h hd⟩

end Go.Proofs.Ytomijmikkbhgmab

namespace Go.Proofs.Ytomijmikkbhgmab

def wtN (f : Nat → Bool) : Nat → Nat
  | 0 => 0
  | k + 1 => wtN f k + (if f k then 2 ^ k else 0)
theorem wtN_lt (f : Nat → Bool) (n : Nat) : wtN f n < 2 ^ n := by
  induction n with
  | zero => simp [wtN]
  | succ n ih => rw [wtN, Nat.pow_succ]; split <;> omega
theorem wtN_congr {f g : Nat → Bool} {n : Nat} (h : ∀ k, k < n → f k = g k) : wtN f n = wtN g n := by
  induction n with
  | zero => rfl
  | succ n ih => rw [wtN, wtN, ih fun k hk => h k (by omega), h n (by omega)]
theorem wtN_zero {f : Nat → Bool} {n : Nat} : wtN f n = 0 ↔ ∀ k, k < n → f k = false := by
  induction n with
  | zero => simp [wtN]
  | succ n ih =>
    rw [wtN]
    constructor
    · intro h k hk
      have h2 : 0 < 2 ^ n := Nat.two_pow_pos n
      by_cases hkn : k = n
      · subst hkn
        cases hf : f k
        · rfl
        · rw [hf] at h; simp at h
      · exact ih.1 (by omega) k (by omega)
    · intro h
      rw [ih.2 fun k hk => h k (by omega), h n (by omega)]
      rfl

def encM (n : Nat) (M : Mo) : List Int := (List.range n).map (fun i => ((M.pc i : Nat) : Int)) ++ ((List.range n).map (fun i => ((wtN (M.wt i) n : Nat) : Int)) ++ tailM n M)

theorem tail_len (n : Nat) (M : Mo) : (tailM n M).length = 3 * n + 3 := by
  unfold tailM
  rw [List.length_append, flat_len _ 3 (fun _ => by simp)]
  simp
  omega
theorem enc_len (n : Nat) (M : Mo) : (encM n M).length = 5 * n + 3 := by
  unfold encM
  rw [List.length_append, List.length_append, tail_len]
  simp
  omega
theorem enc_drop (n : Nat) (M : Mo) : (encM n M).drop (2 * n) = tailM n M := by
  unfold encM
  rw [← List.append_assoc, List.drop_append, List.drop_of_length_le (by simp; omega)]
  simp
  rw [show 2 * n - (n + n) = 0 by omega, List.drop_zero]

theorem enc_pc {n : Nat} (M : Mo) {i : Nat} (h : i < n) : (encM n M)[i]? = some ((M.pc i : Nat) : Int) := by
  unfold encM
  rw [List.getElem?_append_left (by simp; exact h), List.getElem?_map, List.getElem?_range h]
  rfl
theorem enc_wt {n : Nat} (M : Mo) {i : Nat} (h : i < n) : (encM n M)[n + i]? = some ((wtN (M.wt i) n : Nat) : Int) := by
  unfold encM
  rw [List.getElem?_append_right (by simp), List.length_map, List.length_range, Nat.add_sub_cancel_left, List.getElem?_append_left (by simp; exact h), List.getElem?_map, List.getElem?_range h]
  rfl
theorem enc_tail {n : Nat} (M : Mo) (t : Nat) : (encM n M)[2 * n + t]? = (tailM n M)[t]? := by
  rw [← enc_drop n M, List.getElem?_drop]
theorem tail_rg {n : Nat} (M : Mo) {i r : Nat} (h : i < n) (hr : r < 3) : (tailM n M)[3 * i + r]? = some (M.rg i r) := by
  have hf := flat_get (fun a => (List.range 3).map (M.rg a)) 3 (fun _ => by simp) (List.range n) i r i (by rw [List.getElem?_range h]) hr
  have hlen : ((List.range n).flatMap fun a => (List.range 3).map (M.rg a)).length = n * 3 := by rw [flat_len _ 3 (fun _ => by simp)]; simp
  unfold tailM
  rw [List.getElem?_append_left (by rw [hlen]; omega), Nat.mul_comm 3 i, hf, List.getElem?_map, List.getElem?_range hr]
  rfl
theorem tail_lc {n : Nat} (M : Mo) {l : Nat} (hl : l < 3) : (tailM n M)[3 * n + l]? = some (M.lc l) := by
  have hlen : ((List.range n).flatMap fun a => (List.range 3).map (M.rg a)).length = n * 3 := by rw [flat_len _ 3 (fun _ => by simp)]; simp
  unfold tailM
  rw [List.getElem?_append_right (by rw [hlen]; omega), hlen, show 3 * n + l - n * 3 = l by omega, List.getElem?_map, List.getElem?_range hl]
  rfl

/-- Two lists that are as long and the same at each place of a moment are the same. -/
theorem enc_ext {n : Nat} {l : List Int} {M : Mo} (hl : l.length = 5 * n + 3) (h1 : ∀ i, i < n → l[i]? = some ((M.pc i : Nat) : Int)) (h2 : ∀ i, i < n → l[n + i]? = some ((wtN (M.wt i) n : Nat) : Int)) (h3 : ∀ i r, i < n → r < 3 → l[2 * n + (3 * i + r)]? = some (M.rg i r)) (h4 : ∀ a, a < 3 → l[2 * n + (3 * n + a)]? = some (M.lc a)) : l = encM n M := by
  apply List.ext_getElem?
  intro t
  by_cases c1 : t < n
  · rw [h1 t c1, enc_pc M c1]
  · by_cases c2 : t < 2 * n
    · obtain ⟨i, rfl⟩ : ∃ i, t = n + i := ⟨t - n, by omega⟩
      rw [h2 i (by omega), enc_wt M (by omega)]
    · by_cases c3 : t < 5 * n
      · obtain ⟨i, r, hr, rfl⟩ : ∃ i r, r < 3 ∧ t = 2 * n + (3 * i + r) := ⟨(t - 2 * n) / 3, (t - 2 * n) % 3, Nat.mod_lt _ (by omega), by omega⟩
        rw [h3 i r (by omega) hr, enc_tail, tail_rg M (by omega) hr]
      · by_cases c4 : t < 5 * n + 3
        · obtain ⟨a, rfl⟩ : ∃ a, t = 2 * n + (3 * n + a) := ⟨t - 5 * n, by omega⟩
          rw [h4 a (by omega), enc_tail, tail_lc M (by omega)]
        · rw [List.getElem?_eq_none (by omega), List.getElem?_eq_none (by rw [enc_len]; omega)]

theorem set_get {l : List Int} {i t : Nat} {v : Int} (ht : t < l.length) : (l.set i v)[t]? = if i = t then some v else l[t]? := by
  by_cases h : i = t
  · subst h
    rw [if_pos rfl, List.getElem?_set_self ht]
  · rw [if_neg h, List.getElem?_set_ne h]

theorem enc_set_pc {n : Nat} (M : Mo) {i : Nat} (h : i < n) (q : Nat) : (encM n M).set i ((q : Nat) : Int) = encM n { M with pc := upd M.pc i q } := by
  have hl := enc_len n M
  refine enc_ext (by rw [List.length_set]; exact hl) (fun j hj => ?_) (fun j hj => ?_) (fun j r hj hr => ?_) (fun a ha => ?_)
  · rw [set_get (by omega), enc_pc M hj]
    show _ = some ((upd M.pc i q j : Nat) : Int)
    unfold upd
    by_cases hij : i = j
    · rw [if_pos hij, if_pos hij.symm]
    · rw [if_neg hij, if_neg (fun e => hij e.symm)]
  · rw [set_get (by omega), if_neg (by omega)]; exact enc_wt M hj
  · rw [set_get (by omega), if_neg (by omega), enc_tail]; exact tail_rg M hj hr
  · rw [set_get (by omega), if_neg (by omega), enc_tail]; exact tail_lc M ha
theorem enc_set_wt {n : Nat} (M : Mo) {i : Nat} (h : i < n) (f : Nat → Bool) : (encM n M).set (n + i) ((wtN f n : Nat) : Int) = encM n { M with wt := upd M.wt i f } := by
  have hl := enc_len n M
  refine enc_ext (by rw [List.length_set]; exact hl) (fun j hj => ?_) (fun j hj => ?_) (fun j r hj hr => ?_) (fun a ha => ?_)
  · rw [set_get (by omega), if_neg (by omega)]; exact enc_pc M hj
  · rw [set_get (by omega), enc_wt M hj]
    show _ = some ((wtN (upd M.wt i f j) n : Nat) : Int)
    unfold upd
    by_cases hij : i = j
    · rw [if_pos (by omega), if_pos hij.symm]
    · rw [if_neg (by omega), if_neg (fun e => hij e.symm)]
  · rw [set_get (by omega), if_neg (by omega), enc_tail]; exact tail_rg M hj hr
  · rw [set_get (by omega), if_neg (by omega), enc_tail]; exact tail_lc M ha
theorem enc_set_rg {n : Nat} (M : Mo) {i r : Nat} (h : i < n) (hr : r < 3) (v : Int) : (encM n M).set (2 * n + (3 * i + r)) v = encM n { M with rg := upd M.rg i (upd (M.rg i) r v) } := by
  have hl := enc_len n M
  refine enc_ext (by rw [List.length_set]; exact hl) (fun j hj => ?_) (fun j hj => ?_) (fun j r' hj hr' => ?_) (fun a ha => ?_)
  · rw [set_get (by omega), if_neg (by omega)]; exact enc_pc M hj
  · rw [set_get (by omega), if_neg (by omega)]; exact enc_wt M hj
  · rw [set_get (by omega), enc_tail, tail_rg M hj hr']
    show _ = some (upd M.rg i (upd (M.rg i) r v) j r')
    unfold upd
    by_cases hij : j = i
    · subst hij
      rw [if_pos rfl]
      by_cases hrr : r' = r
      · rw [if_pos (by omega), if_pos hrr]
      · rw [if_neg (by omega), if_neg hrr]
    · rw [if_neg (by omega), if_neg hij]
  · rw [set_get (by omega), if_neg (by omega), enc_tail]; exact tail_lc M ha
theorem enc_set_lc {n : Nat} (M : Mo) {a : Nat} (h : a < 3) (v : Int) : (encM n M).set (2 * n + (3 * n + a)) v = encM n { M with lc := upd M.lc a v } := by
  have hl := enc_len n M
  refine enc_ext (by rw [List.length_set]; exact hl) (fun j hj => ?_) (fun j hj => ?_) (fun j r' hj hr' => ?_) (fun b hb => ?_)
  · rw [set_get (by omega), if_neg (by omega)]; exact enc_pc M hj
  · rw [set_get (by omega), if_neg (by omega)]; exact enc_wt M hj
  · rw [set_get (by omega), if_neg (by omega), enc_tail]; exact tail_rg M hj hr'
  · rw [set_get (by omega), enc_tail, tail_lc M hb]
    show _ = some (upd M.lc a v b)
    unfold upd
    by_cases hab : b = a
    · rw [if_pos (by omega), if_pos hab]
    · rw [if_neg (by omega), if_neg hab]

/-! bits -/
theorem wtN_bit (f : Nat → Bool) (n k : Nat) (h : k < n) : (wtN f n).testBit k = f k := by
  induction n with
  | zero => omega
  | succ n ih =>
    rw [wtN]
    have hlt := wtN_lt f n
    by_cases hk : k = n
    · subst hk
      cases hf : f k
      · simp only [Bool.false_eq_true, if_false, Nat.add_zero]
        exact Nat.testBit_lt_two_pow hlt
      · simp only [if_true]
        rw [Nat.add_comm, Nat.testBit_two_pow_add_eq, Nat.testBit_lt_two_pow hlt]
        rfl
    · cases hf : f n
      · simp only [Bool.false_eq_true, if_false, Nat.add_zero]
        exact ih (by omega)
      · simp only [if_true]
        rw [Nat.add_comm, Nat.testBit_two_pow_add_gt (by omega)]
        exact ih (by omega)
theorem wtN_out (f : Nat → Bool) (n k : Nat) (h : n ≤ k) : (wtN f n).testBit k = false := Nat.testBit_lt_two_pow (Nat.lt_of_lt_of_le (wtN_lt f n) (Nat.pow_le_pow_right (by omega) h))

/-- One bit more, and one less. -/
theorem wtN_or (f : Nat → Bool) (n k : Nat) (h : k < n) : wtN f n ||| 2 ^ k = wtN (fun j => f j || decide (j = k)) n := by
  apply Nat.eq_of_testBit_eq
  intro j
  rw [Nat.testBit_or, Nat.testBit_two_pow]
  by_cases hj : j < n
  · rw [wtN_bit _ _ _ hj, wtN_bit _ _ _ hj]
    congr 1
    exact decide_eq_decide.2 eq_comm
  · rw [wtN_out _ _ _ (by omega), wtN_out _ _ _ (by omega)]
    simp
    omega

end Go.Proofs.Ytomijmikkbhgmab

namespace Go.Proofs.Ytomijmikkbhgmab
open Go.RowKit

theorem take_step {l m : List Int} {k : Nat} {x : Int} (h : l.take k = m.take k) (hx : l[k]? = some x) (hy : m[k]? = some x) : l.take (k + 1) = m.take (k + 1) := by
  rw [List.take_add_one, List.take_add_one, h, hx, hy]

set_option maxHeartbeats 1000000 in
theorem sameK_any (l m : List Int) (hl : l.length ≤ 100000) (_hm : m.length ≤ 100000) (u v : Value) (w : World) (hu : IntAt w u l) (hv : IntAt w v m) :
    Calls Try.prog 30 #[u, v] w fun e w' => e = .returned (.bool (l == m)) ∧ Below w.heap.size w w' := by
  obtain ⟨ao, b, off, cap, hv1, ha, _, hc⟩ := hu
  obtain ⟨ao2, b2, off2, cap2, hv2, ha2, _, hc2⟩ := hv
  subst hv1 hv2
  have HC : Hid ((∀ k x, l[k]? = some x → IntC w b (off + k * 1) x) ∧ (∀ k x, m[k]? = some x → IntC w b2 (off2 + k * 1) x)) := ⟨hc, hc2⟩
  clear hc hc2
  generalize hR : (l == m) = R
  have HR : Hid ((l == m) = R) := hR
  clear hR
  by_cases hlm : l.length = m.length
  · have k0 : ((l.length : Int) != (m.length : Int)) = false := by simp [hlm]
    have HL : Hid (l.length = m.length) := hlm
    clear hlm
    go_enter Try.func30, Try.ntmps30
    go_wp2_with fail
    go_loopw [5] (fun i wr => ∃ k : Nat, k ≤ l.length ∧ i = .int .i64 k ∧ Hid (l.take k = m.take k) ∧ Below w.heap.size w wr) (fun i _ => l.length - (intOf i).toNat)
    case atStart => exact ⟨0, Nat.zero_le _, rfl, by simp [Hid], Below.refl _ _⟩
    case round =>
      obtain ⟨k, hk, rfl, HK, hb⟩ := hrel
      by_cases hlt : k < l.length
      · have hlt2 : k < m.length := HL.out ▸ hlt
        obtain ⟨x, hx⟩ := get_of_lt hlt
        obtain ⟨y, hy⟩ := get_of_lt hlt2
        obtain rfl := ha (ne_nil hlt)
        obtain rfl := ha2 (ne_nil hlt2)
        have c0 := intC_keeps _ _ _ _ _ hb (HC.out.1 k x hx)
        have d0 := intC_keeps _ _ _ _ _ hb (HC.out.2 k y hy)
        unfold IntC at c0 d0
        rw [Nat.mul_one] at c0 d0
        have hkI : (k : Int) < (l.length : Int) := by omega
        have hkI2 : (k : Int) < (m.length : Int) := by omega
        by_cases hxy : x = y
        · subst hxy
          have HM : Hid (l.take (k + 1) = m.take (k + 1)) := take_step HK.out hx hy
          have n0 : (x != x) = false := by simp
          clear hx hy HK
          go_wp2_with fail
          go_quiet (fail)
          go_wp2_with fail
          go_roundw
          case measure => simp [intOf]; omega
          case rel => exact ⟨k + 1, by omega, by go_num, HM.out, below_drewN hb _⟩
        · have n0 : (x != y) = true := by simpa using hxy
          have hne : R = false := by
            rw [← HR.out]
            refine beq_eq_false_iff_ne.2 fun e => hxy ?_
            rw [e, hy] at hx
            exact (Option.some.inj hx).symm
          subst hne
          clear hx hy HK HR
          go_wp2_with fail
          go_quiet (fail)
          go_wp2_with fail
          go_ret
          exact ⟨rfl, below_drewN hb _⟩
      · have hkI : (l.length : Int) ≤ (k : Int) := by omega
        have he : R = true := by
          have h1 := HK.out
          rw [List.take_of_length_le (by omega), List.take_of_length_le (by have := HL.out; omega)] at h1
          rw [← HR.out, h1]
          simp
        subst he
        clear HK HR
        go_wp2_with fail
        go_ret
        exact ⟨rfl, hb⟩
  · have k0 : ((l.length : Int) != (m.length : Int)) = true := by simp; omega
    have hne : R = false := by
      rw [← HR.out]
      exact beq_eq_false_iff_ne.2 fun e => hlm (by rw [e])
    subst hne
    clear hlm HR
    go_enter Try.func30, Try.ntmps30
    go_wp2_with fail
    go_ret
    exact ⟨rfl, Below.refl _ _⟩

theorem cnOu_drop_no {K : List (List Int × Nat)} {k : Nat} {p : List Int × Nat} {t : List Int} (hp : K[k]? = some p) (h : (p.1 == t) = false) : cnOu (K.drop k) t = cnOu (K.drop (k + 1)) t := by
  rw [drop_cons hp, cnOu, if_neg (by simp [h]), Nat.zero_add]

set_option maxRecDepth 20000 in
set_option maxHeartbeats 2000000 in
theorem counted_any (n : Nat) (K : List (List Int × Nat)) (hf : KFit n K) (hn : n ≤ 1000) (t : List Int) (ht : t.length ≤ 1000) (u v : Value) (w : World) (hu : OutAt w u K) (hv : IntAt w v t) :
    Calls Try.prog 15 #[u, v] w fun e w' => e = .returned (.int .i64 (cnOu K t : Nat)) ∧ Below w.heap.size w w' := by
  obtain ⟨ao, b, off, cap, hu1, ha, _, hc⟩ := hu
  obtain ⟨a2, p2, e2⟩ := hv.form
  subst hu1 e2
  have hK := hf.few
  have HC : Hid ((∀ k p, K[k]? = some p → OutC w b (off + k * 2) p) ∧ KFit n K ∧ IntAt w (.slice a2 t.length p2) t) := ⟨hc, hf, hv⟩
  clear hc hf hv
  generalize hR : cnOu K t = R
  have HR : Hid (cnOu K t = R) := hR
  clear hR
  have HN : Hid (n ≤ 1000) := hn
  clear hn
  go_enter Try.func15, Try.ntmps15
  go_wp2_with fail
  go_loopw [5] (fun i wr => ∃ k : Nat, k ≤ K.length ∧ i = .int .i64 k ∧ Hid (cnOu (K.drop k) t = R) ∧ Below w.heap.size w wr) (fun i _ => K.length - (intOf i).toNat)
  case atStart => exact ⟨0, Nat.zero_le _, rfl, HR, Below.refl _ _⟩
  case round =>
    obtain ⟨k, hk, rfl, HK, hb⟩ := hrel
    by_cases hlt : k < K.length
    · obtain ⟨p, hp⟩ := get_of_lt hlt
      obtain rfl := ha (ne_nil hlt)
      have hmem := List.mem_of_getElem? hp
      obtain ⟨u1, c0, c1, hi1⟩ := outC_keeps _ _ _ _ _ hb (HC.out.1 k p hp)
      have hpl := HC.out.2.1.len p hmem
      obtain ⟨a1, p1, e1⟩ := hi1.form
      subst e1
      have HS : Hid (∀ w', Below wr.heap.size wr w' → Calls Try.prog 30 #[.slice a1 p.1.length p1, .slice a2 t.length p2] w' fun e w'' => e = .returned (.bool (p.1 == t)) ∧ Below w'.heap.size w' w'') := fun w' hb' => sameK_any p.1 t (by have := HN.out; omega) (by omega) _ _ w' (hi1.keep hb') ((HC.out.2.2.keep hb).keep hb')
      have hkI : (k : Int) < (K.length : Int) := by omega
      cases hs : p.1 == t
      · have HM : Hid (cnOu (K.drop (k + 1)) t = R) := (cnOu_drop_no hp hs).symm.trans HK.out
        rw [hs] at HS
        generalize p.1.length = ln at *
        generalize p.2 = cn at *
        clear hi1 hp hpl hs HK hmem
        go_wp2_with fail
        refine (HS.out _ (Below.refl _ _)).mono ?_
        rintro e w7 ⟨rfl, hb7⟩
        have hb8 := below_more hb hb7
        clear HS c0 c1 hb hb7
        go_wp2_with fail
        go_roundw
        case measure => simp [intOf]; omega
        case rel => exact ⟨k + 1, by omega, by go_num, HM.out, hb8⟩
      · have hcn : R = p.2 := by
          have h1 : p.1 = t := by simpa using hs
          rw [← HR.out, ← h1]
          exact cnOu_at HC.out.2.1.srt hmem
        rw [hs] at HS
        have HCN : Hid (R = p.2) := hcn
        generalize p.1.length = ln at *
        generalize p.2 = cn at *
        clear hi1 hp hpl hs HK hmem hcn HR
        go_wp2_with fail
        refine (HS.out _ (Below.refl _ _)).mono ?_
        rintro e w7 ⟨rfl, hb7⟩
        have hb8 := below_more hb hb7
        replace c1 := keep_cell hb7 c1
        clear HS c0 hb hb7
        go_wp2_with fail
        go_ret
        obtain rfl := HCN.out
        exact ⟨rfl, hb8⟩
    · have hkI : (K.length : Int) ≤ (k : Int) := by omega
      have he : R = 0 := by
        have h1 := HK.out
        rw [drop_nil (by omega)] at h1
        exact h1.symm
      subst he
      clear HK
      go_wp2_with fail
      go_ret
      exact ⟨rfl, hb⟩

end Go.Proofs.Ytomijmikkbhgmab

namespace Go.Proofs.Ytomijmikkbhgmab
open Go.RowKit

def hasL (L : List (List Int)) (l : List Int) : Bool := L.any fun m => m == l
theorem hasL_iff {L : List (List Int)} {l : List Int} : hasL L l = true ↔ l ∈ L := by
  unfold hasL
  rw [List.any_eq_true]
  constructor
  · rintro ⟨m, h1, h2⟩
    have : m = l := by simpa using h2
    rw [← this]; exact h1
  · intro h; exact ⟨l, h, by simp⟩

set_option maxRecDepth 20000 in
set_option maxHeartbeats 1000000 in
theorem hasK_any (L : List (List Int)) (hL : L.length ≤ 1000000000000000) (hLL : ∀ m ∈ L, m.length ≤ 1000) (l : List Int) (hl : l.length ≤ 1000) (u v : Value) (w : World) (hu : LstAt w u L) (hv : IntAt w v l) :
    Calls Try.prog 45 #[u, v] w fun e w' => e = .returned (.bool (hasL L l)) ∧ Below w.heap.size w w' := by
  obtain ⟨ao, b, off, cap, hu1, ha, _, hc⟩ := hu
  obtain ⟨a2, p2, e2⟩ := hv.form
  subst hu1 e2
  have HC : Hid ((∀ k p, L[k]? = some p → LC w b (off + k * 1) p) ∧ (∀ m ∈ L, m.length ≤ 1000) ∧ IntAt w (.slice a2 l.length p2) l) := ⟨hc, hLL, hv⟩
  clear hc hv hLL
  have HH : Hid (∀ k, hasL L l = ((L.take k).any (fun m => m == l) || (L.drop k).any fun m => m == l)) := fun k => by
    unfold hasL
    rw [← List.any_append, List.take_append_drop]
  go_enter Try.func45, Try.ntmps45
  go_wp2_with fail
  go_loopw [5] (fun i wr => ∃ k : Nat, k ≤ L.length ∧ i = .int .i64 k ∧ Hid (((L.take k).any fun m => m == l) = false) ∧ Below w.heap.size w wr) (fun i _ => L.length - (intOf i).toNat)
  case atStart => exact ⟨0, Nat.zero_le _, rfl, by simp [Hid], Below.refl _ _⟩
  case round =>
    obtain ⟨k, hk, rfl, HK, hb⟩ := hrel
    by_cases hlt : k < L.length
    · obtain ⟨p, hp⟩ := get_of_lt hlt
      obtain rfl := ha (ne_nil hlt)
      obtain ⟨u1, c0, hi1⟩ := lc_keeps _ _ _ _ _ hb (HC.out.1 k p hp)
      rw [Nat.mul_one] at c0
      have hpl := HC.out.2.1 p (List.mem_of_getElem? hp)
      obtain ⟨a1, p1, e1⟩ := hi1.form
      subst e1
      have HS : Hid (Calls Try.prog 30 #[.slice a1 p.length p1, .slice a2 l.length p2] wr fun e w'' => e = .returned (.bool (p == l)) ∧ Below wr.heap.size wr w'') := sameK_any p l (by omega) (by omega) _ _ wr hi1 (HC.out.2.2.keep hb)
      have hkI : (k : Int) < (L.length : Int) := by omega
      cases hs : p == l
      · have HM : Hid (((L.take (k + 1)).any fun m => m == l) = false) := by
          unfold Hid
          rw [take_snoc hp, List.any_append, HK.out]
          simp [hs]
        rw [hs] at HS
        generalize p.length = lp at *
        clear hi1 hp hs HK
        go_wp2_with fail
        refine HS.out.mono ?_
        rintro e w7 ⟨rfl, hb7⟩
        have hb8 := below_more hb hb7
        clear HS c0 hb hb7
        go_wp2_with fail
        go_roundw
        case measure => simp [intOf]; omega
        case rel => exact ⟨k + 1, by omega, by go_num, HM.out, hb8⟩
      · have HR : Hid (hasL L l = true) := hasL_iff.2 (by have : p = l := by simpa using hs
                                                          rw [← this]; exact List.mem_of_getElem? hp)
        rw [hs] at HS
        generalize p.length = lp at *
        clear hi1 hp hs HK
        go_wp2_with fail
        refine HS.out.mono ?_
        rintro e w7 ⟨rfl, hb7⟩
        have hb8 := below_more hb hb7
        clear HS c0 hb hb7
        go_wp2_with fail
        go_ret
        exact ⟨by rw [HR.out]; rfl, hb8⟩
    · have hkI : (L.length : Int) ≤ (k : Int) := by omega
      have HR : Hid (hasL L l = false) := by
        unfold Hid
        rw [HH.out k, HK.out, drop_nil (by omega)]
        rfl
      clear HK
      go_wp2_with fail
      go_ret
      exact ⟨by rw [HR.out]; rfl, hb⟩

set_option maxRecDepth 20000 in
set_option maxHeartbeats 1000000 in
theorem withinK_any (L K : List (List Int)) (hL : L.length ≤ 1000000000000000) (hK : K.length ≤ 1000000000000000) (hLL : ∀ m ∈ L, m.length ≤ 1000) (hKK : ∀ m ∈ K, m.length ≤ 1000) (u v : Value) (w : World) (hu : LstAt w u L) (hv : LstAt w v K) :
    Calls Try.prog 26 #[u, v] w fun e w' => e = .returned (.bool (L.all fun m => hasL K m)) ∧ Below w.heap.size w w' := by
  obtain ⟨ao, b, off, cap, hu1, ha, _, hc⟩ := hu
  obtain ⟨a2, b2, off2, p2, hv1⟩ := hv
  have e2 := hv1.hv
  have HV : Hid (LstAt w v K) := ⟨a2, b2, off2, p2, hv1⟩
  subst hu1 e2
  have HC : Hid ((∀ k p, L[k]? = some p → LC w b (off + k * 1) p) ∧ (∀ m ∈ L, m.length ≤ 1000) ∧ (∀ m ∈ K, m.length ≤ 1000)) := ⟨hc, hLL, hKK⟩
  clear hc hv1 hLL hKK
  have HH : Hid (∀ k, (L.all fun m => hasL K m) = ((L.take k).all (fun m => hasL K m) && (L.drop k).all fun m => hasL K m)) := fun k => by
    rw [← List.all_append, List.take_append_drop]
  go_enter Try.func26, Try.ntmps26
  go_wp2_with fail
  go_loopw [5] (fun i wr => ∃ k : Nat, k ≤ L.length ∧ i = .int .i64 k ∧ Hid (((L.take k).all fun m => hasL K m) = true) ∧ Below w.heap.size w wr) (fun i _ => L.length - (intOf i).toNat)
  case atStart => exact ⟨0, Nat.zero_le _, rfl, by simp [Hid], Below.refl _ _⟩
  case round =>
    obtain ⟨k, hk, rfl, HK, hb⟩ := hrel
    by_cases hlt : k < L.length
    · obtain ⟨p, hp⟩ := get_of_lt hlt
      obtain rfl := ha (ne_nil hlt)
      obtain ⟨u1, c0, hi1⟩ := lc_keeps _ _ _ _ _ hb (HC.out.1 k p hp)
      rw [Nat.mul_one] at c0
      have hpl := HC.out.2.1 p (List.mem_of_getElem? hp)
      obtain ⟨a1, p1, e1⟩ := hi1.form
      subst e1
      have HS : Hid (Calls Try.prog 45 #[.slice a2 K.length p2, .slice a1 p.length p1] wr fun e w'' => e = .returned (.bool (hasL K p)) ∧ Below wr.heap.size wr w'') := hasK_any K hK HC.out.2.2 p hpl _ _ wr (HV.out.keep hb) hi1
      have hkI : (k : Int) < (L.length : Int) := by omega
      cases hs : hasL K p
      · have HR : Hid ((L.all fun m => hasL K m) = false) := by
          unfold Hid
          rw [HH.out k, drop_cons hp, List.all_cons, hs]
          simp
        rw [hs] at HS
        generalize p.length = lp at *
        clear hi1 hp hs HK
        go_wp2_with fail
        refine HS.out.mono ?_
        rintro e w7 ⟨rfl, hb7⟩
        have hb8 := below_more hb hb7
        clear HS c0 hb hb7
        go_wp2_with fail
        go_ret
        exact ⟨by rw [HR.out]; rfl, hb8⟩
      · have HM : Hid (((L.take (k + 1)).all fun m => hasL K m) = true) := by
          unfold Hid
          rw [take_snoc hp, List.all_append, HK.out]
          simp [hs]
        rw [hs] at HS
        generalize p.length = lp at *
        clear hi1 hp hs HK
        go_wp2_with fail
        refine HS.out.mono ?_
        rintro e w7 ⟨rfl, hb7⟩
        have hb8 := below_more hb hb7
        clear HS c0 hb hb7
        go_wp2_with fail
        go_roundw
        case measure => simp [intOf]; omega
        case rel => exact ⟨k + 1, by omega, by go_num, HM.out, hb8⟩
    · have hkI : (L.length : Int) ≤ (k : Int) := by omega
      have HR : Hid ((L.all fun m => hasL K m) = true) := by
        unfold Hid
        rw [HH.out k, HK.out, drop_nil (by omega)]
        rfl
      clear HK
      go_wp2_with fail
      go_ret
      exact ⟨by rw [HR.out]; rfl, hb⟩

end Go.Proofs.Ytomijmikkbhgmab

namespace Go.Proofs.Ytomijmikkbhgmab
open Go.RowKit

theorem enc_zero (n : Nat) : encM n moZ = List.replicate (5 * n + 3) 0 := by
  symm
  refine enc_ext (by simp) (fun i hi => ?_) (fun i hi => ?_) (fun i r hi hr => ?_) (fun a ha => ?_)
  · rw [List.getElem?_replicate, if_pos (by omega)]; rfl
  · rw [List.getElem?_replicate, if_pos (by omega)]
    have : wtN (moZ.wt i) n = 0 := wtN_zero.2 fun _ _ => rfl
    rw [this]
    rfl
  · rw [List.getElem?_replicate, if_pos (by omega)]; rfl
  · rw [List.getElem?_replicate, if_pos (by omega)]; rfl

/-- A list of numbers in a row of its own. -/
def OwnI (base : Nat) (w : World) (v : Value) (l : List Int) : Prop := w.ownsRow base 3 1 v l.length (intV l)
theorem OwnI.at' {base : Nat} {w : World} {v : Value} {l : List Int} (h : OwnI base w v l) : IntAt w v l := owns_intR h

set_option maxRecDepth 20000 in
theorem first_any (T : List (List Ins)) (fa : Bool) (c : List Atm) (hT4 : T.length ≤ 4) (vt vc : Value) (w : World) (h : TestAt w (.agg #[vt, .bool fa, vc]) T fa c vt vc) :
    Calls Try.prog 43 #[.agg #[vt, .bool fa, vc]] w fun e w' => ∃ u, e = .returned u ∧ OwnI w.heap.size w' u (encM T.length moZ) ∧ Below w.heap.size w w' := by
  obtain ⟨i1, hi1, hy0, hy1, hy2⟩ := info_parts Try.infoIntR
  obtain ⟨ht0, aot, bt, offt, capt, htv, _⟩ := h.ht.opened
  obtain ⟨hc0, aoc, bc, offc, capc, hsc⟩ := h.hc
  have hcv := hsc.hv
  subst htv hcv
  clear h hsc
  have hba := below_alloc w (.cells #[.slice aot T.length capt, .bool fa, .slice aoc c.length capc] 25)
  obtain ⟨w2, hm, hown, hg⟩ := run_make_full (P := Try.prog) (w.alloc (.cells #[.slice aot T.length capt, .bool fa, .slice aoc c.length capc] 25)) w.heap.size 39 3 i1 (.int .i64 0) 1 Try.underlying39 hi1 hy0 hy1 .i64 .i64 (5 * T.length + 3) (by rw [hy2]; omega) (by unfold maxLen; omega) (by simp)
  have e5 : ((5 * T.length + 3 : Nat) : Int) = 2 * (T.length : Int) + 3 * (T.length : Int) + 3 := by omega
  rw [e5] at hm
  have HO : Hid (OwnI w.heap.size w2 (.slice (some ⟨(w.alloc (.cells #[.slice aot T.length capt, .bool fa, .slice aoc c.length capc] 25)).heap.size, 0, none⟩) (5 * T.length + 3) (5 * T.length + 3)) (encM T.length moZ)) := by
    unfold Hid OwnI
    rw [enc_zero, List.length_replicate]
    have e1 : (madeCells (Value.int .i64 0).cells ((5 * T.length + 3) * 1)).toList = intV (List.replicate (5 * T.length + 3) 0) := by
      rw [Nat.mul_one]
      show (madeCells #[.int .i64 0] _).toList = _
      rw [toList_madeCells_one]
      unfold intV
      rw [List.map_replicate]
    rw [← e1]
    exact hown
  have hb2 : Below w.heap.size w w2 := below_more hba ⟨hg.os, hg.tape, hg.output, hg.size, fun j hj => hg.block j hj (by simp)⟩
  clear hown hg hy0 hy1 hy2 hi1 e5
  generalize hW : w.alloc (.cells #[.slice aot T.length capt, .bool fa, .slice aoc c.length capc] 25) = W at *
  have t0 : W.cell? ⟨w.heap.size, 0, none⟩ = some (.slice aot T.length capt) := by rw [← hW]; simp
  generalize hN5 : 5 * T.length + 3 = N5 at *
  clear hN5
  go_enter Try.func43, Try.ntmps43
  go_wp2_with fail
  go_ret
  exact ⟨_, rfl, HO.out, hb2⟩

def doneB (T : List (List Ins)) (M : Mo) (k : Nat) : Bool := (List.range k).all fun i => M.pc i == 2 * (T.getD i []).length
theorem doneB_step (T : List (List Ins)) (M : Mo) (k : Nat) : doneB T M (k + 1) = (doneB T M k && M.pc k == 2 * (T.getD k []).length) := by unfold doneB; rw [List.range_succ, List.all_append]; simp
theorem doneB_no {T : List (List Ins)} {M : Mo} {k n : Nat} (hk : k < n) (h : (M.pc k == 2 * (T.getD k []).length) = false) : doneB T M n = false := by
  unfold doneB
  rw [List.all_eq_false]
  exact ⟨k, List.mem_range.2 hk, by rw [h]; simp⟩
theorem doneB_iff {T : List (List Ins)} {M : Mo} : doneB T M T.length = true ↔ DoneM T M := by
  unfold doneB DoneM
  rw [List.all_eq_true]
  constructor
  · intro h i l hl
    have := h i (List.mem_range.2 (List.getElem?_eq_some_iff.1 hl).1)
    rw [List.getD_eq_getElem?_getD, hl] at this
    simpa using this
  · intro h i hi
    obtain ⟨l, hl⟩ := get_of_lt (List.mem_range.1 hi)
    rw [List.getD_eq_getElem?_getD, hl]
    simpa using h i l hl

set_option maxRecDepth 20000 in
set_option maxHeartbeats 1000000 in
theorem done_any (T : List (List Ins)) (fa : Bool) (c : List Atm) (hT4 : T.length ≤ 4) (hl12 : ∀ l ∈ T, l.length ≤ 12) (M : Mo) (vt vc v : Value) (w : World) (h : TestAt w (.agg #[vt, .bool fa, vc]) T fa c vt vc) (hv : IntAt w v (encM T.length M)) :
    Calls Try.prog 44 #[.agg #[vt, .bool fa, vc], v] w fun e w' => e = .returned (.bool (doneB T M T.length)) ∧ Below w.heap.size w w' := by
  obtain ⟨ht0, aot, bt, offt, capt, htv, hta, _, htc⟩ := h.ht.opened
  obtain ⟨hc0, aoc, bc, offc, capc, hsc⟩ := h.hc
  obtain ⟨ao2, b2, off2, cap2, hv2, ha2, _, hc2⟩ := hv
  have hcv := hsc.hv
  subst htv hcv hv2
  obtain rfl := ha2 (by intro e; have := enc_len T.length M; rw [e] at this; simp at this)
  have HC : Hid ((∀ k l, T[k]? = some l → ∃ ao' cap', w.cell? ⟨bt, offt + k, none⟩ = some (.slice ao' l.length cap')) ∧ (∀ l ∈ T, l.length ≤ 12) ∧ ∀ k, k < T.length → w.cell? ⟨b2, off2 + k, none⟩ = some (.int .i64 (M.pc k : Int))) := ⟨fun k l hk => by obtain ⟨_, ao', cap', q, _⟩ := htc k l hk; exact ⟨ao', cap', q⟩, hl12, fun k hk => by
    have := hc2 k _ (enc_pc M hk)
    rw [Nat.mul_one] at this
    exact this⟩
  rw [enc_len]
  clear h hsc htc hc2 hl12 ha2
  go_enter Try.func44, Try.ntmps44
  go_wp2_with fail
  have hba := below_alloc w (.cells #[.slice aot T.length capt, .bool fa, .slice aoc c.length capc] 25)
  have t00 : (w.alloc (.cells #[.slice aot T.length capt, .bool fa, .slice aoc c.length capc] 25)).cell? ⟨w.heap.size, 0, none⟩ = some (.slice aot T.length capt) := by simp
  obtain ⟨w1, hw1⟩ : ∃ x, x = w.alloc (.cells #[.slice aot T.length capt, .bool fa, .slice aoc c.length capc] 25) := ⟨_, rfl⟩
  rw [← hw1] at hba t00 ⊢
  clear hw1
  generalize hN5 : 5 * T.length + 3 = N5 at *
  have hn5 : T.length ≤ N5 := by omega
  clear hN5
  go_loopw [5] (fun i wr => ∃ k : Nat, k ≤ T.length ∧ i = .int .i64 k ∧ Hid (doneB T M k = true) ∧ Below w1.heap.size w1 wr) (fun i _ => T.length - (intOf i).toNat)
  case atStart => exact ⟨0, Nat.zero_le _, rfl, rfl, Below.refl _ _⟩
  case round =>
    obtain ⟨k, hk, rfl, HK, hb⟩ := hrel
    have t0 := keep_cell hb t00
    have hbw := below_more hba hb
    by_cases hlt : k < T.length
    · have hkI : (k : Int) < (T.length : Int) := by omega
      have hkI5 : (k : Int) < (N5 : Int) := by omega
      obtain ⟨l, hl⟩ := get_of_lt hlt
      obtain rfl := hta (ne_nil hlt)
      obtain ⟨ao', cap', c0⟩ := HC.out.1 k l hl
      have c1 := keep_cell hbw c0
      have d1 := keep_cell hbw (HC.out.2.2 k hlt)
      have hll := HC.out.2.1 l (List.mem_of_getElem? hl)
      have e2 : (T.getD k []).length = l.length := by rw [List.getD_eq_getElem?_getD, hl]; rfl
      have HE : Hid (doneB T M (k + 1) = (M.pc k == 2 * l.length)) := by unfold Hid; rw [doneB_step, HK.out, e2]; rfl
      have HN : Hid ((M.pc k == 2 * l.length) = false → doneB T M T.length = false) := fun q => doneB_no hlt (by rw [e2]; exact q)
      clear hl c0 e2 HK
      generalize l.length = ll at *
      generalize M.pc k = q at *
      cases hq : q == 2 * ll
      · have hq1 : ((q : Int) != 2 * (ll : Int)) = true := by
          have : q ≠ 2 * ll := by simpa using hq
          simp; omega
        have HRR : Hid (doneB T M T.length = false) := HN.out hq
        go_wp2_with fail
        go_quiet (fail)
        go_wp2_with fail
        go_ret
        exact ⟨by rw [HRR.out]; rfl, below_drewN hbw _⟩
      · have hq1 : ((q : Int) != 2 * (ll : Int)) = false := by
          have : q = 2 * ll := by simpa using hq
          simp; omega
        rw [hq] at HE
        go_wp2_with fail
        go_quiet (fail)
        go_wp2_with fail
        go_roundw
        case measure => simp [intOf]; omega
        case rel => exact ⟨k + 1, by omega, by go_num, HE.out, below_drewN hb _⟩
    · have hkI : (T.length : Int) ≤ (k : Int) := by omega
      obtain rfl : k = T.length := by omega
      have HR := HK
      clear HK
      go_wp2_with fail
      go_ret
      exact ⟨by rw [HR.out]; rfl, hbw⟩

end Go.Proofs.Ytomijmikkbhgmab

namespace Go.Proofs.Ytomijmikkbhgmab
open Go.RowKit

theorem insd_stop {l : List Ins} {b : Bool} {p q : Nat} (h : ¬ (2 * p < q ∧ p < l.length)) : insd (l.drop p) b (q - 2 * p) = b := by
  by_cases h1 : 2 * p < q
  · rw [drop_nil (by omega)]
    rfl
  · rw [show q - 2 * p = 0 by omega, insd_zero]
theorem insd_go {l : List Ins} {b : Bool} {p q : Nat} {x : Ins} (hx : l[p]? = some x) (h : 2 * p < q) : insd (l.drop p) b (q - 2 * p) = insd (l.drop (p + 1)) (if x.op == 5 then true else if x.op == 6 then false else b) (q - 2 * (p + 1)) := by
  rw [drop_cons hx, insd, if_neg (by omega), show q - 2 * p - 2 = q - 2 * (p + 1) by omega]

set_option maxRecDepth 20000 in
set_option maxHeartbeats 2000000 in
theorem inside_any (T : List (List Ins)) (fa : Bool) (c : List Atm) (_hT4 : T.length ≤ 4) (hl12 : ∀ l ∈ T, l.length ≤ 12) (m : List Int) (hml : T.length ≤ m.length) (i q : Nat) (l : List Ins) (hl : T[i]? = some l) (hq : q ≤ 24) (hmi : m[i]? = some (q : Int)) (vt vc v : Value) (w : World) (h : TestAt w (.agg #[vt, .bool fa, vc]) T fa c vt vc) (hv : IntAt w v m) :
    Calls Try.prog 80 #[.agg #[vt, .bool fa, vc], v, .int .i64 i] w fun e w' => e = .returned (.bool (insd l false q)) ∧ Below w.heap.size w w' := by
  have hiT := (List.getElem?_eq_some_iff.1 hl).1
  obtain ⟨ht0, aot, bt, offt, capt, htv, hta, _, htc⟩ := h.ht.opened
  obtain ⟨hc0, aoc, bc, offc, capc, hsc⟩ := h.hc
  obtain ⟨ao2, b2, off2, cap2, hv2, ha2, _, hc2⟩ := hv
  have hcv := hsc.hv
  subst htv hcv hv2
  have hml0 : i < m.length := by omega
  obtain rfl := ha2 (ne_nil hml0)
  obtain rfl := hta (ne_nil hiT)
  have hll := hl12 l (List.mem_of_getElem? hl)
  obtain ⟨_, ao', cap', c00, hin⟩ := htc i l hl
  obtain ⟨_, ao3, b3, off3, cap3, hs3⟩ := hin
  have hv3 := hs3.hv
  simp only [Value.slice.injEq] at hv3
  obtain ⟨rfl, -, rfl⟩ := hv3
  have d00 : w.cell? ⟨b2, off2 + i, none⟩ = some (.int .i64 (q : Int)) := by
    have := hc2 i _ hmi
    rw [Nat.mul_one] at this
    exact this
  have HS : Hid (∀ w', Below w.heap.size w w' → (∀ p x, l[p]? = some x → ao' = some ⟨b3, off3, none⟩ ∧ w'.cell? ⟨b3, off3 + p * 5, none⟩ = some (.int .i64 x.op)) ∧ w'.cell? ⟨bt, offt + i, none⟩ = some (.slice ao' l.length cap') ∧ w'.cell? ⟨b2, off2 + i, none⟩ = some (.int .i64 (q : Int))) := fun w' hb => ⟨fun p x hx => ⟨hs3.ha (ne_nil (List.getElem?_eq_some_iff.1 hx).1), keep_cell hb (hs3.hc p x hx).c0⟩, keep_cell hb c00, keep_cell hb d00⟩
  have HG : Hid (∀ (p : Nat) (b : Bool) (x : Ins), l[p]? = some x → 2 * p < q → insd (l.drop p) b (q - 2 * p) = insd (l.drop (p + 1)) (if x.op == 5 then true else if x.op == 6 then false else b) (q - 2 * (p + 1))) := fun p b x hx hp => insd_go hx hp
  have HZ : Hid (∀ (p : Nat) (b : Bool), ¬ (2 * p < q ∧ p < l.length) → insd (l.drop p) b (q - 2 * p) = b) := fun p b hp => insd_stop hp
  generalize hmm : m.length = ml at *
  clear h hsc htc hc2 hl12 ha2 hta hs3 c00 d00 hmi hmm hl
  generalize hR : insd l false q = RR
  have HR : Hid (insd (l.drop 0) false (q - 2 * 0) = RR) := hR
  clear hR
  go_enter Try.func80, Try.ntmps80
  go_wp2_with fail
  have hba := below_alloc w (.cells #[.slice (some ⟨bt, offt, none⟩) T.length capt, .bool fa, .slice aoc c.length capc] 25)
  have t00 : (w.alloc (.cells #[.slice (some ⟨bt, offt, none⟩) T.length capt, .bool fa, .slice aoc c.length capc] 25)).cell? ⟨w.heap.size, 0, none⟩ = some (.slice (some ⟨bt, offt, none⟩) T.length capt) := by simp
  obtain ⟨w1, hw1⟩ : ∃ x, x = w.alloc (.cells #[.slice (some ⟨bt, offt, none⟩) T.length capt, .bool fa, .slice aoc c.length capc] 25) := ⟨_, rfl⟩
  rw [← hw1] at hba t00 ⊢
  clear hw1
  have hiI : (i : Int) < (T.length : Int) := by omega
  have hiM : (i : Int) < (ml : Int) := by omega
  go_loopw [7, 8] (fun x y wr => ∃ (p : Nat) (b : Bool), p ≤ l.length ∧ x = .bool b ∧ y = .int .i64 p ∧ Hid (insd (l.drop p) b (q - 2 * p) = RR) ∧ Below w1.heap.size w1 wr) (fun _ y _ => l.length - (intOf y).toNat)
  case atStart => exact ⟨0, false, Nat.zero_le _, rfl, rfl, HR.out, Below.refl _ _⟩
  case round =>
    obtain ⟨p, b, hp, rfl, rfl, HK, hb⟩ := hrel
    have t0 := keep_cell hb t00
    have hbw := below_more hba hb
    obtain ⟨hrow, c1, d1⟩ := HS.out wr hbw
    by_cases hpq : 2 * p < q
    · have hpI : 2 * (p : Int) < (q : Int) := by omega
      by_cases hlt : p < l.length
      · have hpL : (p : Int) < (l.length : Int) := by omega
        obtain ⟨x, hx⟩ := get_of_lt hlt
        obtain ⟨rfl, x0⟩ := hrow p x hx
        have HN : Hid (insd (l.drop (p + 1)) (if x.op == 5 then true else if x.op == 6 then false else b) (q - 2 * (p + 1)) = RR) := (HG.out p b x hx hpq).symm.trans HK.out
        clear hrow hx HK
        generalize x.op = xo at *
        by_cases h5 : xo = 5
        · subst h5
          go_wp2_with fail
          go_roundw
          case measure => simp [intOf]; omega
          case rel => exact ⟨p + 1, true, by omega, rfl, by go_num, HN.out, hb⟩
        · have h5b : (xo == 5) = false := by simpa using h5
          rw [h5b] at HN
          by_cases h6 : xo = 6
          · subst h6
            go_wp2_with fail
            go_roundw
            case measure => simp [intOf]; omega
            case rel => exact ⟨p + 1, false, by omega, rfl, by go_num, HN.out, hb⟩
          · have h6b : (xo == 6) = false := by simpa using h6
            rw [h6b] at HN
            go_wp2_with fail
            go_roundw
            case measure => simp [intOf]; omega
            case rel => exact ⟨p + 1, b, by omega, rfl, by go_num, HN.out, hb⟩
      · have hpL : ¬ (p : Int) < (l.length : Int) := by omega
        have HB : Hid (b = RR) := (HZ.out p b (by omega)).symm.trans HK.out
        clear HK hrow
        go_wp2_with fail
        go_ret
        exact ⟨by rw [← HB.out]; rfl, hbw⟩
    · have hpI : ¬ 2 * (p : Int) < (q : Int) := by omega
      have HB : Hid (b = RR) := (HZ.out p b (by omega)).symm.trans HK.out
      clear HK hrow
      go_wp2_with fail
      go_ret
      exact ⟨by rw [← HB.out]; rfl, hbw⟩

end Go.Proofs.Ytomijmikkbhgmab

namespace Go.Proofs.Ytomijmikkbhgmab
open Go.RowKit

theorem or_small : ∀ a b : Fin 16, bits .or .i64 ((a.val : Nat) : Int) ((b.val : Nat) : Int) = ((a.val ||| b.val : Nat) : Int) := by decide +kernel
theorem and_small : ∀ a b : Fin 16, bits .andNot .i64 ((a.val : Nat) : Int) ((b.val : Nat) : Int) = ((a.val &&& (15 - b.val) : Nat) : Int) := by decide +kernel
theorem shl_small : ∀ k : Fin 4, wrap64 ((2 : Int) ^ k.val) = ((2 ^ k.val : Nat) : Int) := by decide +kernel
theorem or_i64 {a b : Nat} (ha : a < 16) (hb : b < 16) : bits .or .i64 (a : Int) (b : Int) = ((a ||| b : Nat) : Int) := or_small ⟨a, ha⟩ ⟨b, hb⟩
theorem and_i64 {a b : Nat} (ha : a < 16) (hb : b < 16) : bits .andNot .i64 (a : Int) (b : Int) = ((a &&& (15 - b) : Nat) : Int) := and_small ⟨a, ha⟩ ⟨b, hb⟩

theorem clr_small : ∀ (a : Fin 16) (k j : Fin 4), (a.val &&& (15 - 2 ^ k.val)).testBit j.val = (a.val.testBit j.val && !decide (j.val = k.val)) := by decide +kernel
theorem clr_lt : ∀ (a : Fin 16) (k : Fin 4), a.val &&& (15 - 2 ^ k.val) ≤ a.val := by decide +kernel

/-- One bit less. -/
theorem wtN_clr (f : Nat → Bool) (n k : Nat) (hn : n ≤ 4) (h : k < n) : wtN f n &&& (15 - 2 ^ k) = wtN (fun j => if j = k then false else f j) n := by
  have hlt : wtN f n < 16 := Nat.lt_of_lt_of_le (wtN_lt f n) (by have := Nat.pow_le_pow_right (n := 2) (by omega) hn; omega)
  apply Nat.eq_of_testBit_eq
  intro j
  by_cases hj : j < n
  · have := clr_small ⟨wtN f n, hlt⟩ ⟨k, by omega⟩ ⟨j, by omega⟩
    simp only at this
    rw [this, wtN_bit _ _ _ hj, wtN_bit _ _ _ hj]
    by_cases hjk : j = k
    · simp [hjk]
    · simp [hjk]
  · rw [wtN_out _ _ _ (by omega)]
    have h1 := clr_lt ⟨wtN f n, hlt⟩ ⟨k, by omega⟩
    simp only at h1
    exact Nat.testBit_lt_two_pow (Nat.lt_of_le_of_lt h1 (Nat.lt_of_lt_of_le (wtN_lt f n) (Nat.pow_le_pow_right (by omega) (by omega))))

end Go.Proofs.Ytomijmikkbhgmab
