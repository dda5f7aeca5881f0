import Derived.Test.YtomijmikkbhgmaaT33
import Derived.Test.YtomijmikkbhgmaaT24
namespace Go.Proofs.Ytomijmikkbhgmaa
open Go.RowKit

theorem may_lr {x : Ins} (h : mayB x = true) : (∃ a : Nat, a < 3 ∧ x.loc = (a : Int)) ∧ ∃ r : Nat, r < 3 ∧ x.reg = (r : Int) := by
  have key : ∀ z : Int, locB z = true ∨ z = 0 → ∃ a : Nat, a < 3 ∧ z = (a : Int) := fun z hz => by
    rcases hz with hz | hz
    · unfold locB at hz
      simp only [Bool.and_eq_true, decide_eq_true_eq] at hz
      exact ⟨z.toNat, by omega, by omega⟩
    · exact ⟨0, by omega, by omega⟩
  unfold mayB at h
  repeat' split at h
  all_goals first | (cases h; done) | simp only [Bool.and_eq_true, beq_iff_eq] at h
  all_goals exact ⟨key _ (by simp [h]), key _ (by simp [h])⟩

/-- In the midst: the threads below k wait no more for thread i. -/
def clrM (M : Mo) (i k : Nat) : Mo := { M with wt := fun j t => if j < k ∧ t = i then false else M.wt j t }
theorem clr_zero (n : Nat) (M : Mo) (i : Nat) : encM n (clrM M i 0) = encM n M := enc_wt_congr rfl (fun j _ t _ => by show (if j < 0 ∧ t = i then false else M.wt j t) = _; rw [if_neg (by omega)]) rfl rfl
theorem clr_row (M : Mo) (i k : Nat) : (clrM M i k).wt k = M.wt k := by
  funext t
  show (if k < k ∧ t = i then false else M.wt k t) = _
  rw [if_neg (by omega)]
theorem clr_step {n : Nat} (hn : n ≤ 4) (M : Mo) {i k : Nat} (hi : i < n) (hk : k < n) : (encM n (clrM M i k)).set (n + k) ((wtN (M.wt k) n &&& (15 - 2 ^ i) : Nat) : Int) = encM n (clrM M i (k + 1)) := by
  rw [wtN_clr _ _ _ hn hi, enc_set_wt _ hk]
  refine enc_wt_congr rfl (fun j _ t _ => ?_) rfl rfl
  show upd (clrM M i k).wt k _ j t = (if j < k + 1 ∧ t = i then false else M.wt j t)
  unfold upd
  by_cases hjk : j = k
  · subst hjk
    rw [if_pos rfl]
    by_cases ht : t = i
    · rw [if_pos ht, if_pos ⟨by omega, ht⟩]
    · rw [if_neg ht, if_neg (by omega)]
  · rw [if_neg hjk]
    show (if j < k ∧ t = i then false else M.wt j t) = _
    by_cases hc : j < k ∧ t = i
    · rw [if_pos hc, if_pos ⟨by omega, hc.2⟩]
    · rw [if_neg hc, if_neg (by omega)]
theorem clr_all {n : Nat} (M : Mo) (i : Nat) : encM n (clrM M i n) = encM n { M with wt := fun k j => if j = i then false else M.wt k j } := by
  refine enc_wt_congr rfl (fun j hj t _ => ?_) rfl rfl
  show (if j < n ∧ t = i then false else M.wt j t) = (if t = i then false else M.wt j t)
  by_cases ht : t = i
  · rw [if_pos ht, if_pos ⟨hj, ht⟩]
  · rw [if_neg ht, if_neg (by omega)]

theorem step_wait {T : List (List Ins)} {M : Mo} {i : Nat} {l : List Ins} {x : Ins} (hl : T[i]? = some l) (hx : l[M.pc i / 2]? = some x) (h7 : x.op = 7) (hq : M.pc i % 2 = 1) (hw : wtN (M.wt i) T.length ≠ 0) : stepMo T M i = none := by
  unfold stepMo
  rw [hl]
  simp only [hx]
  rw [if_pos (by simpa using h7), if_pos (by simp [hq]), if_pos]
  cases ha : (List.range T.length).any (M.wt i)
  · exfalso
    refine hw (wtN_zero.2 fun k hk => ?_)
    cases hwk : M.wt i k
    · rfl
    · have : (List.range T.length).any (M.wt i) = true := List.any_eq_true.2 ⟨k, List.mem_range.2 hk, hwk⟩
      rw [ha] at this; cases this
  · rfl

/-- What next answers. -/
def NxOut (T : List (List Ins)) (M : Mo) (i : Nat) (w : World) (e : Ending) (w' : World) : Prop := Below w.heap.size w w' ∧ ((stepMo T M i = none ∧ e = .returned (.slice none 0 0)) ∨ ∃ M' u, stepMo T M i = some M' ∧ e = .returned u ∧ OwnI w.heap.size w' u (encM T.length M'))

set_option maxRecDepth 20000 in
set_option maxHeartbeats 4000000 in
theorem nextK_any (T : List (List Ins)) (fa : Bool) (c : List Atm) (hT4 : T.length ≤ 4) (hl12 : ∀ l ∈ T, l.length ≤ 12) (hmay : ∀ l ∈ T, ∀ x ∈ l, mayB x = true) (M : Mo) (hP : Pcs T M) (i : Nat) (hi : i < T.length) (vt vc v : Value) (w : World) (h : TestAt w (.agg #[vt, .bool fa, vc]) T fa c vt vc) (hv : IntAt w v (encM T.length M)) :
    Calls Try.prog 55 #[.agg #[vt, .bool fa, vc], v, .int .i64 i] w (NxOut T M i w) := by
  obtain ⟨i1, hi1, hy0, hy1, hy2⟩ := info_parts Try.infoIntR
  have HI : Hid (Try.prog.info? 3 = some i1 ∧ i1.zero = some (.int .i64 0) ∧ i1.size = 1 ∧ i1.bytes = 8) := ⟨hi1, hy0, hy1, hy2⟩
  clear hi1 hy0 hy1 hy2
  obtain ⟨l, hl⟩ := get_of_lt hi
  have hll := hl12 l (List.mem_of_getElem? hl)
  have hqle := hP.le i l hl
  have HP : Hid (Pcs T M) := hP
  have HL : Hid (T[i]? = some l) := hl
  have HPC : Hid (∀ k, k < T.length → M.pc k ≤ 24) := fun k hk => by
    obtain ⟨l', hl'⟩ := get_of_lt hk
    have h1 := hP.le k l' hl'
    have h2 := hl12 l' (List.mem_of_getElem? hl')
    omega
  have HTT : Hid (∀ w', Below w.heap.size w w' → TestAt w' (.agg #[vt, .bool fa, vc]) T fa c vt vc) := fun w' hb => h.keep hb
  have HL12 : Hid (∀ l ∈ T, l.length ≤ 12) := hl12
  obtain ⟨ht0, aot, bt, offt, capt, htv, hta, _, htc⟩ := h.ht.opened
  obtain ⟨hc0, aoc, bc, offc, capc, hsc⟩ := h.hc
  have hcv := hsc.hv
  subst htv hcv
  obtain rfl := hta (ne_nil hi)
  obtain ⟨_, ao', cap', c00, hin⟩ := htc i l hl
  obtain ⟨_, ao3, b3, off3, cap3, hs3⟩ := hin
  have hv3 := hs3.hv
  simp only [Value.slice.injEq] at hv3
  obtain ⟨rfl, -, rfl⟩ := hv3
  have hlen := enc_len T.length M
  obtain ⟨ao2, b2, off2, cap2, hv2, ha2, _, hc2⟩ := hv
  subst hv2
  obtain rfl := ha2 (by intro e; rw [e] at hlen; simp at hlen)
  have d0 : w.cell? ⟨b2, off2 + i, none⟩ = some (.int .i64 (M.pc i : Int)) := by
    have := hc2 i _ (enc_pc M hi)
    rw [Nat.mul_one] at this
    exact this
  have hb2 : b2 < w.heap.size := World.block_lt_of_cell? _ _ d0
  have HAL : Hid (∀ (w' : World), Below w.heap.size w w' → ∀ ad, some (⟨b2, off2, none⟩ : Addr) = some ad → ∀ j u, (intV (encM T.length M))[j]? = some u → w'.cell? (ad.add j) = some u) := fun w' hb ad had j u hj => by
    cases had
    unfold intV at hj
    rw [List.getElem?_map] at hj
    cases hsj : (encM T.length M)[j]? with
    | none => rw [hsj] at hj; cases hj
    | some x =>
      rw [hsj] at hj
      cases hj
      have := hc2 j x hsj
      rw [Nat.mul_one] at this
      rw [Addr.add_lit]
      exact keep_cell hb this
  have HX : Hid (∀ w', Below w.heap.size w w' → ∀ x, l[M.pc i / 2]? = some x → ao' = some ⟨b3, off3, none⟩ ∧ InsC w' b3 (off3 + M.pc i / 2 * 5) x) := fun w' hb x hx => ⟨hs3.ha (ne_nil (List.getElem?_eq_some_iff.1 hx).1), insC_keeps _ _ _ _ _ hb (hs3.hc _ x hx)⟩
  have HMAY : Hid (∀ x, l[M.pc i / 2]? = some x → mayB x = true) := fun x hx => hmay l (List.mem_of_getElem? hl) x (List.mem_of_getElem? hx)
  have HLEN : Hid (∀ M', (encM T.length M').length = 5 * T.length + 3) := fun M' => enc_len _ _
  rw [hlen]
  have hba := below_alloc w (.cells #[.slice (some ⟨bt, offt, none⟩) T.length capt, .bool fa, .slice aoc c.length capc] 25)
  have t00 : (w.alloc (.cells #[.slice (some ⟨bt, offt, none⟩) T.length capt, .bool fa, .slice aoc c.length capc] 25)).cell? ⟨w.heap.size, 0, none⟩ = some (.slice (some ⟨bt, offt, none⟩) T.length capt) := by simp
  have t01 : (w.alloc (.cells #[.slice (some ⟨bt, offt, none⟩) T.length capt, .bool fa, .slice aoc c.length capc] 25)).cell? ⟨w.heap.size, 1, none⟩ = some (.bool fa) := by simp
  have t02 : (w.alloc (.cells #[.slice (some ⟨bt, offt, none⟩) T.length capt, .bool fa, .slice aoc c.length capc] 25)).cell? ⟨w.heap.size, 2, none⟩ = some (.slice aoc c.length capc) := by simp
  have c01 := keep_cell hba c00
  have d01 := keep_cell hba d0
  have hsz1 : (w.alloc (.cells #[.slice (some ⟨bt, offt, none⟩) T.length capt, .bool fa, .slice aoc c.length capc] 25)).heap.size = w.heap.size + 1 := by simp
  have hiI : (i : Int) < (T.length : Int) := by omega
  generalize hN5 : 5 * T.length + 3 = N5 at *
  have HN5 : Hid (5 * T.length + 3 = N5) := hN5
  have hiN : (i : Int) < (N5 : Int) := by omega
  have hN23 : N5 ≤ 23 := by omega
  clear hN5 hlen h hsc htc hc2 hta ha2 hs3 c00 d0 hP hl12 hmay hl
  generalize hq : M.pc i = q at *
  have HQ : Hid (M.pc i = q) := hq
  clear hq
  obtain ⟨w1, hw1⟩ : ∃ x, x = w.alloc (.cells #[.slice (some ⟨bt, offt, none⟩) T.length capt, .bool fa, .slice aoc c.length capc] 25) := ⟨_, rfl⟩
  have hdiv : (q : Int) / 2 = ((q / 2 : Nat) : Int) := by omega
  have hdiv2 : Int.tdiv (q : Int) 2 = ((q / 2 : Nat) : Int) := by rw [Int.tdiv_eq_ediv_of_nonneg (by omega)]; omega
  go_enter Try.func55, Try.ntmps55
  go_upto_region 1 with fail
  rw [← hw1] at hba t00 t01 t02 c01 d01 hsz1 ⊢
  clear hw1
  by_cases hlt : q / 2 < l.length
  · have hqI : ((q / 2 : Nat) : Int) < (l.length : Int) := by omega
    obtain ⟨x, hx⟩ := get_of_lt hlt
    obtain ⟨rfl, hxc⟩ := HX.out w1 hba x hx
    have x0 := hxc.c0
    have x1 := hxc.c1
    have x2 := hxc.c2
    have x3 := hxc.c3
    have x4 := hxc.c4
    have HXX : Hid (l[q / 2]? = some x) := hx
    have HM : Hid (mayB x = true) := HMAY.out x hx
    clear hxc hx HMAY HX
    generalize hp : q / 2 = p at *
    go_wp2_with (at_builtin; refine append_new _ rfl (.tmp 31) (.tmp 32) 37 rfl w.heap.size 3 i1 (.int .i64 0) 1 8 Try.underlying37 HI.out.1 HI.out.2.1 HI.out.2.2.1 HI.out.2.2.2 rfl (by decide) (.slice none 0 0) 0 [] rfl (World.ownsRow_nil _ _ _ _) (some ⟨b2, off2, none⟩) N5 cap2 (intV (encM T.length M)) rfl (fun h => by cases h) (by unfold intV; rw [List.length_map, HLEN.out, Nat.mul_one]) (HAL.out w1 hba) (by intro u hu; unfold intV at hu; obtain ⟨x, _, rfl⟩ := List.mem_map.1 hu; rfl) (by unfold maxLen; omega) (by omega) (by omega) ?_)
    intro v4 w4 hown4 hgrow4 _
    obtain ⟨g, cap4, hv4⟩ := own_some2 hown4 (by omega)
    subst hv4
    have hgw := (hown4.lt g rfl).1
    have hg4l := (hown4.lt g rfl).2
    have hg4 : w1.grownBy w4 none := hgrow4
    have hb14 : Below w1.heap.size w1 w4 := ⟨hg4.os, hg4.tape, hg4.output, hg4.size, fun j hj => hg4.block j hj (by simp)⟩
    have hgn : ¬ g = w.heap.size := fun e => by
      rcases hown4.2 with ⟨e1, _⟩ | ⟨g', cap', cur', e1, _, hh, _⟩
      · cases e1
      · cases e1
        have h0 := keep_cell hb14 t00
        rw [← e] at h0
        have h1 : w4.cell? ⟨g, 0, none⟩ = some (.int .i64 (M.pc 0)) := by
          have := hown4.cells (g := g) rfl 0 (.int .i64 (M.pc 0)) (by
            have e0 := enc_pc M (n := T.length) (i := 0) (by omega)
            unfold intV
            rw [List.getElem?_map, e0]
            rfl)
          rw [Addr.add_lit] at this
          exact this
        rw [h0] at h1
        cases h1
    have HO4 : Hid (OwnI w.heap.size w4 (.slice (some ⟨g, 0, none⟩) N5 cap4) (encM T.length M)) := by
      unfold Hid OwnI
      rw [HLEN.out]
      exact hown4
    have hb4 := below_more hba hb14
    have s00 := keep_cell hb14 t00
    have s01 := keep_cell hb14 t01
    have s02 := keep_cell hb14 t02
    have c04 := keep_cell hb14 c01
    have y0 := keep_cell hb14 x0
    have y1 := keep_cell hb14 x1
    have y2 := keep_cell hb14 x2
    have y3 := keep_cell hb14 x3
    have y4 := keep_cell hb14 x4
    obtain ⟨⟨a, ha, hxa⟩, r, hr, hxr⟩ := may_lr HM.out
    rw [hxa] at y1
    rw [hxr] at y2
    have hI1 : 2 * (T.length : Int) + 3 * (i : Int) + (r : Int) = ((2 * T.length + (3 * i + r) : Nat) : Int) := by omega
    have hI2 : 2 * (T.length : Int) + 3 * (T.length : Int) + (a : Int) = ((2 * T.length + (3 * T.length + a) : Nat) : Int) := by omega
    clear hown4 hgrow4 hg4 t00 t01 t02 c01 d01 x0 x1 x2 x3 x4 hba hb14 hsz1
    have hIa : 2 * T.length + (3 * T.length + a) < N5 := by have := HN5.out; omega
    have hIr : 2 * T.length + (3 * i + r) < N5 := by have := HN5.out; omega
    generalize hLa : 2 * T.length + (3 * T.length + a) = La at *
    generalize hLr : 2 * T.length + (3 * i + r) = Lr at *
    have HLA : Hid (2 * T.length + (3 * T.length + a) = La) := hLa
    have HLR : Hid (2 * T.length + (3 * i + r) = Lr) := hLr
    have hiLa : ¬ i = La := by omega
    have hiLr : ¬ i = Lr := by omega
    have hLai : ¬ La = i := by omega
    have hLri : ¬ Lr = i := by omega
    clear hLa hLr
    go_upto_region 8 with fail
    have hb45 := below_alloc w4 (.cells #[.int .i64 x.op, .int .i64 a, .int .i64 r, .int .i64 x.val, .int .i64 x.mode] 66)
    have z0 : (w4.alloc (.cells #[.int .i64 x.op, .int .i64 a, .int .i64 r, .int .i64 x.val, .int .i64 x.mode] 66)).cell? ⟨w4.heap.size, 0, none⟩ = some (.int .i64 x.op) := cell_new rfl rfl
    have z1 : (w4.alloc (.cells #[.int .i64 x.op, .int .i64 a, .int .i64 r, .int .i64 x.val, .int .i64 x.mode] 66)).cell? ⟨w4.heap.size, 1, none⟩ = some (.int .i64 a) := cell_new rfl rfl
    have z2 : (w4.alloc (.cells #[.int .i64 x.op, .int .i64 a, .int .i64 r, .int .i64 x.val, .int .i64 x.mode] 66)).cell? ⟨w4.heap.size, 2, none⟩ = some (.int .i64 r) := cell_new rfl rfl
    have z3 : (w4.alloc (.cells #[.int .i64 x.op, .int .i64 a, .int .i64 r, .int .i64 x.val, .int .i64 x.mode] 66)).cell? ⟨w4.heap.size, 3, none⟩ = some (.int .i64 x.val) := cell_new rfl rfl
    have HO5 : Hid (OwnI w.heap.size (w4.alloc (.cells #[.int .i64 x.op, .int .i64 a, .int .i64 r, .int .i64 x.val, .int .i64 x.mode] 66)) (.slice (some ⟨g, 0, none⟩) N5 cap4) (encM T.length M)) := HO4.out.keep hb45
    have hb5 := below_more hb4 hb45
    have s50 := keep_cell hb45 s00
    have s51 := keep_cell hb45 s01
    have s52 := keep_cell hb45 s02
    have hsz5 : w.heap.size ≤ (w4.alloc (.cells #[.int .i64 x.op, .int .i64 a, .int .i64 r, .int .i64 x.val, .int .i64 x.mode] 66)).heap.size := hb5.size
    obtain ⟨B, hB⟩ : ∃ B, B = w4.heap.size := ⟨_, rfl⟩
    rw [← hB] at z0 z1 z2 z3 hg4l ⊢
    obtain ⟨w5, hw5⟩ : ∃ x', x' = w4.alloc (.cells #[.int .i64 x.op, .int .i64 a, .int .i64 r, .int .i64 x.val, .int .i64 x.mode] 66) := ⟨_, rfl⟩
    rw [← hw5] at z0 z1 z2 z3 HO5 hb5 s50 s51 s52 hsz5 ⊢
    clear hw5 hb45 s00 s01 s02 c04 y0 y1 y2 y3 y4 HO4 hb4 hB
    have hgB : ¬ B = g := by omega
    have hgB' : ¬ g = B := by omega
    have hLaI : (La : Int) < (N5 : Int) := by omega
    have hLrI : (Lr : Int) < (N5 : Int) := by omega
    -- the cells of the moment, in any world where it lies
    have HCE : Hid (∀ (w' : World) (M' : Mo), OwnI w.heap.size w' (.slice (some ⟨g, 0, none⟩) N5 cap4) (encM T.length M') → (w'.cell? ⟨g, i, none⟩ = some (.int .i64 (M'.pc i : Int)) ∧ w'.cell? ⟨g, La, none⟩ = some (.int .i64 (M'.lc a)) ∧ w'.cell? ⟨g, Lr, none⟩ = some (.int .i64 (M'.rg i r))) ∧ w'.frozen? ⟨g, i, none⟩ = false ∧ w'.frozen? ⟨g, La, none⟩ = false ∧ w'.frozen? ⟨g, Lr, none⟩ = false) := fun w' M' ho => by
      refine ⟨⟨ho.cell (HLEN.out M').symm (enc_pc M' hi), ho.cell (HLEN.out M').symm ?_, ho.cell (HLEN.out M').symm ?_⟩, ho.free (HLEN.out M').symm _, ho.free (HLEN.out M').symm _, ho.free (HLEN.out M').symm _⟩
      · rw [← HLA.out, enc_tail, tail_lc M' ha]
      · rw [← HLR.out, enc_tail, tail_rg M' hi hr]
    have HST : Hid (∀ (w' : World) (M' : Mo) (z : Int), OwnI w.heap.size w' (.slice (some ⟨g, 0, none⟩) N5 cap4) (encM T.length M') → OwnI w.heap.size (w'.setCell ⟨g, La, none⟩ (.int .i64 z)) (.slice (some ⟨g, 0, none⟩) N5 cap4) (encM T.length { M' with lc := upd M'.lc a z }) ∧ OwnI w.heap.size (w'.setCell ⟨g, Lr, none⟩ (.int .i64 z)) (.slice (some ⟨g, 0, none⟩) N5 cap4) (encM T.length { M' with rg := upd M'.rg i (upd (M'.rg i) r z) })) := fun w' M' z ho => by
      have h1 := ho.set (HLEN.out M').symm La z
      have h2 := ho.set (HLEN.out M').symm Lr z
      rw [← HLA.out, enc_set_lc M' ha] at h1
      rw [← HLR.out, enc_set_rg M' hi hr] at h2
      rw [← HLA.out, ← HLR.out]
      exact ⟨h1, h2⟩
    have HPT : Hid (∀ (w' : World) (M' : Mo) (z : Nat), OwnI w.heap.size w' (.slice (some ⟨g, 0, none⟩) N5 cap4) (encM T.length M') → OwnI w.heap.size (w'.setCell ⟨g, i, none⟩ (.int .i64 ((z : Int)))) (.slice (some ⟨g, 0, none⟩) N5 cap4) (encM T.length { M' with pc := upd M'.pc i z })) := fun w' M' z ho => by
      have h1 := ho.set (HLEN.out M').symm i (z : Int)
      rw [enc_set_pc M' hi] at h1
      exact h1
    obtain ⟨⟨e0, e1, e2⟩, f0, f1, f2⟩ := HCE.out w5 M HO5.out
    rw [HQ.out] at e0
    have HSTEP : Hid (x.op ≠ 7 → stepMo T M i = some { doMo M i x with pc := upd M.pc i (q + 2) }) := fun h7 => by
      have := step_other (M := M) HL.out (by rw [HQ.out, hp]; exact HXX.out) h7
      rw [HQ.out] at this
      exact this
    have hxa' : x.loc.toNat = a := by omega
    have hxr' : x.reg.toNat = r := by omega
    have HXA : Hid (x.loc.toNat = a ∧ x.reg.toNat = r) := ⟨hxa', hxr'⟩
    clear hxa hxr hxa' hxr' hlt hqI hdiv hdiv2
    by_cases h7 : x.op = 7
    · have HWT : Hid (∀ M', stepMo T M i = M' → stepMo T M i = M') := fun _ h => h
      have HSY : Hid (Calls Try.prog 79 #[.agg #[.slice (some ⟨bt, offt, none⟩) T.length capt, .bool fa, .slice aoc c.length capc], .slice (some ⟨g, 0, none⟩) N5 cap4, .int .i64 i] w5 (SyOut T M i w.heap.size w5 (.slice (some ⟨g, 0, none⟩) N5 cap4))) := syncs_any T fa c hT4 HL12.out M HPC.out i hi _ _ _ w5 w.heap.size hsz5 (fun w' hb' => HTT.out w' (hb5.trans hb')) HO5.out
      have HX7 : Hid (l[M.pc i / 2]? = some x ∧ x.op = 7) := ⟨by rw [HQ.out, hp]; exact HXX.out, h7⟩
      rw [h7] at z0
      clear HSTEP HWT h7
      go_wp2_with fail
      refine HSY.out.mono ?_
      rintro e w6 ⟨hb6, hcase⟩
      have hbw6 := hb5.trans hb6
      rcases hcase with ⟨q1, q2, rfl⟩ | ⟨q1, q2, rfl, HO6⟩ | ⟨q1, rfl, HO6⟩
      · have HR : Hid (stepMo T M i = none) := step_wait HL.out HX7.out.1 HX7.out.2 q1 q2
        clear q1 q2
        go_wp2_with fail
        go_ret
        exact ⟨hbw6, .inl ⟨HR.out, rfl⟩⟩
      · have HR : Hid (stepMo T M i = some { M with pc := upd M.pc i (M.pc i + 1) }) := step_finish HL.out HX7.out.1 HX7.out.2 q1 (wtN_zero.1 q2)
        have HO6' : Hid (OwnI w.heap.size w6 (.slice (some ⟨g, 0, none⟩) N5 cap4) (encM T.length { M with pc := upd M.pc i (M.pc i + 1) })) := HO6
        clear q1 q2 HO6
        go_wp2_with fail
        go_ret
        exact ⟨hbw6, .inr ⟨_, _, HR.out, rfl, HO6'.out⟩⟩
      · have HR : Hid (stepMo T M i = some { M with pc := upd M.pc i (M.pc i + 1), wt := upd M.wt i fun k => M.wt i k || inK T M k }) := step_begin HL.out HX7.out.1 HX7.out.2 q1
        have HO6' : Hid (OwnI w.heap.size w6 (.slice (some ⟨g, 0, none⟩) N5 cap4) (encM T.length { M with pc := upd M.pc i (M.pc i + 1), wt := upd M.wt i fun k => M.wt i k || inK T M k })) := HO6
        clear q1 HO6
        go_wp2_with fail
        go_ret
        exact ⟨hbw6, .inr ⟨_, _, HR.out, rfl, HO6'.out⟩⟩
    · have HS := HSTEP.out h7
      by_cases h0 : x.op = 0
      · have HD : Hid (doMo M i x = { M with lc := upd M.lc a x.val }) := by
          unfold Hid doMo
          rw [if_pos (by simp [h0])]
          simp only [HXA.out.1]
        have HO6 : Hid (OwnI w.heap.size (w5.setCell ⟨g, La, none⟩ (.int .i64 x.val)) (.slice (some ⟨g, 0, none⟩) N5 cap4) (encM T.length { M with lc := upd M.lc a x.val })) := (HST.out w5 M x.val HO5.out).1
        have hb6 : Below w.heap.size w (w5.setCell ⟨g, La, none⟩ (.int .i64 x.val)) := hb5.setCell (by show w.heap.size ≤ g; exact hgw) _
        have HS' : Hid (stepMo T M i = some { doMo M i x with pc := upd M.pc i (q + 2) }) := HS
        clear HS HSTEP
        rw [h0] at z0
        go_upto_region 30 with fail
        obtain ⟨w6, hw6⟩ : ∃ x', x' = w5.setCell ⟨g, La, none⟩ (.int .i64 x.val) := ⟨_, rfl⟩
        rw [← hw6] at HO6 hb6 ⊢
        clear hw6
        obtain ⟨⟨k0, _, _⟩, l0, _, _⟩ := HCE.out w6 { M with lc := upd M.lc a x.val } HO6.out
        replace k0 : w6.cell? ⟨g, i, none⟩ = some (.int .i64 (q : Int)) := by have := k0; rw [show ({ M with lc := upd M.lc a x.val } : Mo).pc i = q from HQ.out] at this; exact this
        have HF : Hid (OwnI w.heap.size (w6.setCell ⟨g, i, none⟩ (.int .i64 ((q : Int) + 2))) (.slice (some ⟨g, 0, none⟩) N5 cap4) (encM T.length { doMo M i x with pc := upd M.pc i (q + 2) })) := by
          have := HPT.out w6 { M with lc := upd M.lc a x.val } (q + 2) HO6.out
          rw [show ((q + 2 : Nat) : Int) = (q : Int) + 2 by omega] at this
          rw [HD.out]
          exact this
        have hbf : Below w.heap.size w (w6.setCell ⟨g, i, none⟩ (.int .i64 ((q : Int) + 2))) := hb6.setCell (by show w.heap.size ≤ g; exact hgw) _
        clear e0 e1 e2 f0 f1 f2 z0 z1 z2 z3 s50 s51 s52
        go_wp2_with fail
        go_ret
        exact ⟨hbf, .inr ⟨_, _, HS'.out, rfl, HF.out⟩⟩
      · by_cases h1 : x.op = 1
        · have HD : Hid (doMo M i x = { M with lc := upd M.lc a (M.rg i r) }) := by
            unfold Hid doMo
            rw [if_neg (by simp [h1]), if_pos (by simp [h1])]
            simp only [HXA.out.1, HXA.out.2]
          have HO6 : Hid (OwnI w.heap.size (w5.setCell ⟨g, La, none⟩ (.int .i64 (M.rg i r))) (.slice (some ⟨g, 0, none⟩) N5 cap4) (encM T.length { M with lc := upd M.lc a (M.rg i r) })) := (HST.out w5 M (M.rg i r) HO5.out).1
          have hb6 : Below w.heap.size w (w5.setCell ⟨g, La, none⟩ (.int .i64 (M.rg i r))) := hb5.setCell (by show w.heap.size ≤ g; exact hgw) _
          have HS' : Hid (stepMo T M i = some { doMo M i x with pc := upd M.pc i (q + 2) }) := HS
          clear HS HSTEP
          rw [h1] at z0
          go_upto_region 30 with fail
          obtain ⟨w6, hw6⟩ : ∃ x', x' = w5.setCell ⟨g, La, none⟩ (.int .i64 (M.rg i r)) := ⟨_, rfl⟩
          rw [← hw6] at HO6 hb6 ⊢
          clear hw6
          obtain ⟨⟨k0, _, _⟩, l0, _, _⟩ := HCE.out w6 { M with lc := upd M.lc a (M.rg i r) } HO6.out
          replace k0 : w6.cell? ⟨g, i, none⟩ = some (.int .i64 (q : Int)) := by have := k0; rw [show ({ M with lc := upd M.lc a (M.rg i r) } : Mo).pc i = q from HQ.out] at this; exact this
          have HF : Hid (OwnI w.heap.size (w6.setCell ⟨g, i, none⟩ (.int .i64 ((q : Int) + 2))) (.slice (some ⟨g, 0, none⟩) N5 cap4) (encM T.length { doMo M i x with pc := upd M.pc i (q + 2) })) := by
            have := HPT.out w6 { M with lc := upd M.lc a (M.rg i r) } (q + 2) HO6.out
            rw [show ((q + 2 : Nat) : Int) = (q : Int) + 2 by omega] at this
            rw [HD.out]
            exact this
          have hbf : Below w.heap.size w (w6.setCell ⟨g, i, none⟩ (.int .i64 ((q : Int) + 2))) := hb6.setCell (by show w.heap.size ≤ g; exact hgw) _
          clear e0 e1 e2 f0 f1 f2 z0 z1 z2 z3 s50 s51 s52
          go_wp2_with fail
          go_ret
          exact ⟨hbf, .inr ⟨_, _, HS'.out, rfl, HF.out⟩⟩
        · by_cases h2 : x.op = 2
          · have HD : Hid (doMo M i x = { M with rg := upd M.rg i (upd (M.rg i) r (M.lc a)) }) := by
              unfold Hid doMo
              rw [if_neg (by simp [h2]), if_neg (by simp [h2]), if_pos (by simp [h2])]
              simp only [HXA.out.1, HXA.out.2]
            have HO6 : Hid (OwnI w.heap.size (w5.setCell ⟨g, Lr, none⟩ (.int .i64 (M.lc a))) (.slice (some ⟨g, 0, none⟩) N5 cap4) (encM T.length { M with rg := upd M.rg i (upd (M.rg i) r (M.lc a)) })) := (HST.out w5 M (M.lc a) HO5.out).2
            have hb6 : Below w.heap.size w (w5.setCell ⟨g, Lr, none⟩ (.int .i64 (M.lc a))) := hb5.setCell (by show w.heap.size ≤ g; exact hgw) _
            have HS' : Hid (stepMo T M i = some { doMo M i x with pc := upd M.pc i (q + 2) }) := HS
            clear HS HSTEP
            rw [h2] at z0
            go_upto_region 30 with fail
            obtain ⟨w6, hw6⟩ : ∃ x', x' = w5.setCell ⟨g, Lr, none⟩ (.int .i64 (M.lc a)) := ⟨_, rfl⟩
            rw [← hw6] at HO6 hb6 ⊢
            clear hw6
            obtain ⟨⟨k0, _, _⟩, l0, _, _⟩ := HCE.out w6 { M with rg := upd M.rg i (upd (M.rg i) r (M.lc a)) } HO6.out
            replace k0 : w6.cell? ⟨g, i, none⟩ = some (.int .i64 (q : Int)) := by have := k0; rw [show ({ M with rg := upd M.rg i (upd (M.rg i) r (M.lc a)) } : Mo).pc i = q from HQ.out] at this; exact this
            have HF : Hid (OwnI w.heap.size (w6.setCell ⟨g, i, none⟩ (.int .i64 ((q : Int) + 2))) (.slice (some ⟨g, 0, none⟩) N5 cap4) (encM T.length { doMo M i x with pc := upd M.pc i (q + 2) })) := by
              have := HPT.out w6 { M with rg := upd M.rg i (upd (M.rg i) r (M.lc a)) } (q + 2) HO6.out
              rw [show ((q + 2 : Nat) : Int) = (q : Int) + 2 by omega] at this
              rw [HD.out]
              exact this
            have hbf : Below w.heap.size w (w6.setCell ⟨g, i, none⟩ (.int .i64 ((q : Int) + 2))) := hb6.setCell (by show w.heap.size ≤ g; exact hgw) _
            clear e0 e1 e2 f0 f1 f2 z0 z1 z2 z3 s50 s51 s52
            go_wp2_with fail
            go_ret
            exact ⟨hbf, .inr ⟨_, _, HS'.out, rfl, HF.out⟩⟩
          · by_cases h3 : x.op = 3
            · have HD : Hid (doMo M i x = { M with rg := upd M.rg i (upd (M.rg i) r (M.lc a)), lc := upd M.lc a x.val }) := by
                unfold Hid doMo
                rw [if_neg (by simp [h3]), if_neg (by simp [h3]), if_neg (by simp [h3]), if_pos (by simp [h3])]
                simp only [HXA.out.1, HXA.out.2]
              have HO6 : Hid (OwnI w.heap.size (w5.setCell ⟨g, Lr, none⟩ (.int .i64 (M.lc a))) (.slice (some ⟨g, 0, none⟩) N5 cap4) (encM T.length { M with rg := upd M.rg i (upd (M.rg i) r (M.lc a)) })) := (HST.out w5 M (M.lc a) HO5.out).2
              have hb6 : Below w.heap.size w (w5.setCell ⟨g, Lr, none⟩ (.int .i64 (M.lc a))) := hb5.setCell (by show w.heap.size ≤ g; exact hgw) _
              have z36 := cell_heap (heap_setCell_other w5 ⟨g, Lr, none⟩ B (.int .i64 (M.lc a)) hgB) z3
              have HS' : Hid (stepMo T M i = some { doMo M i x with pc := upd M.pc i (q + 2) }) := HS
              clear HS HSTEP
              rw [h3] at z0
              go_upto_region 24 with fail
              obtain ⟨w6, hw6⟩ : ∃ x', x' = w5.setCell ⟨g, Lr, none⟩ (.int .i64 (M.lc a)) := ⟨_, rfl⟩
              rw [← hw6] at HO6 hb6 z36 ⊢
              clear hw6
              obtain ⟨⟨_, k1, _⟩, _, l1, _⟩ := HCE.out w6 { M with rg := upd M.rg i (upd (M.rg i) r (M.lc a)) } HO6.out
              have HO7 : Hid (OwnI w.heap.size (w6.setCell ⟨g, La, none⟩ (.int .i64 x.val)) (.slice (some ⟨g, 0, none⟩) N5 cap4) (encM T.length { M with rg := upd M.rg i (upd (M.rg i) r (M.lc a)), lc := upd M.lc a x.val })) := (HST.out w6 { M with rg := upd M.rg i (upd (M.rg i) r (M.lc a)) } x.val HO6.out).1
              have hb7 : Below w.heap.size w (w6.setCell ⟨g, La, none⟩ (.int .i64 x.val)) := hb6.setCell (by show w.heap.size ≤ g; exact hgw) _
              go_upto_region 30 with fail
              obtain ⟨w7, hw7⟩ : ∃ x', x' = w6.setCell ⟨g, La, none⟩ (.int .i64 x.val) := ⟨_, rfl⟩
              rw [← hw7] at HO7 hb7 ⊢
              clear hw7 k1 l1 z36
              obtain ⟨⟨k0, _, _⟩, l0, _, _⟩ := HCE.out w7 { M with rg := upd M.rg i (upd (M.rg i) r (M.lc a)), lc := upd M.lc a x.val } HO7.out
              replace k0 : w7.cell? ⟨g, i, none⟩ = some (.int .i64 (q : Int)) := by have := k0; rw [show ({ M with rg := upd M.rg i (upd (M.rg i) r (M.lc a)), lc := upd M.lc a x.val } : Mo).pc i = q from HQ.out] at this; exact this
              have HF : Hid (OwnI w.heap.size (w7.setCell ⟨g, i, none⟩ (.int .i64 ((q : Int) + 2))) (.slice (some ⟨g, 0, none⟩) N5 cap4) (encM T.length { doMo M i x with pc := upd M.pc i (q + 2) })) := by
                have := HPT.out w7 { M with rg := upd M.rg i (upd (M.rg i) r (M.lc a)), lc := upd M.lc a x.val } (q + 2) HO7.out
                rw [show ((q + 2 : Nat) : Int) = (q : Int) + 2 by omega] at this
                rw [HD.out]
                exact this
              have hbf : Below w.heap.size w (w7.setCell ⟨g, i, none⟩ (.int .i64 ((q : Int) + 2))) := hb7.setCell (by show w.heap.size ≤ g; exact hgw) _
              clear e0 e1 e2 f0 f1 f2 z0 z1 z2 z3 s50 s51 s52
              go_wp2_with fail
              go_ret
              exact ⟨hbf, .inr ⟨_, _, HS'.out, rfl, HF.out⟩⟩
            · by_cases h6 : x.op = 6
              · have HD : Hid (doMo M i x = { M with wt := fun k j => if j = i then false else M.wt k j }) := by
                  unfold Hid doMo
                  rw [if_neg (by simp [h6]), if_neg (by simp [h6]), if_neg (by simp [h6]), if_neg (by simp [h6]), if_pos (by simp [h6])]
                have HS' : Hid (stepMo T M i = some { doMo M i x with pc := upd M.pc i (q + 2) }) := HS
                clear HS HSTEP e0 e1 e2 f0 f1 f2 z3 s50 s51 s52
                rw [h6] at z0
                go_wp2_with fail
                go_loopw [14] (fun y wr => ∃ k : Nat, k ≤ T.length ∧ y = .int .i64 k ∧ Hid (OwnI w.heap.size wr (.slice (some ⟨g, 0, none⟩) N5 cap4) (encM T.length (clrM M i k))) ∧ Below w.heap.size w wr) (fun y _ => T.length - (intOf y).toNat)
                case atStart => exact ⟨0, Nat.zero_le _, rfl, by rw [clr_zero]; exact HO5.out, hb5⟩
                case round =>
                  obtain ⟨k, hk, rfl, HO, hbr⟩ := hrel
                  clear z0 z1 z2
                  by_cases hkl : k < T.length
                  · have hkI : (k : Int) < (T.length : Int) := by omega
                    have hnk : T.length + k < N5 := by have := HN5.out; omega
                    have p1 : wr.cell? ⟨g, T.length + k, none⟩ = some (.int .i64 ((wtN (M.wt k) T.length : Nat) : Int)) := by
                      have := HO.out.cell (HLEN.out _).symm (enc_wt (clrM M i k) hkl)
                      rw [clr_row] at this
                      exact this
                    have pf : wr.frozen? ⟨g, T.length + k, none⟩ = false := HO.out.free (HLEN.out _).symm _
                    have hAl : wtN (M.wt k) T.length < 16 := Nat.lt_of_lt_of_le (wtN_lt _ _) (by have := Nat.pow_le_pow_right (n := 2) (by omega) hT4; omega)
                    have hi4 : i < 4 := by omega
                    have hand := and_i64 (a := wtN (M.wt k) T.length) (b := 2 ^ i) hAl (by have := Nat.pow_lt_pow_right (a := 2) (by omega) hi4; omega)
                    have hsh : wrap64 ((2 : Int) ^ i) = ((2 ^ i : Nat) : Int) := shl_small ⟨i, hi4⟩
                    have HN : Hid (OwnI w.heap.size (wr.setCell ⟨g, T.length + k, none⟩ (.int .i64 (bits .andNot .i64 ((wtN (M.wt k) T.length : Nat) : Int) (wrap64 ((2 : Int) ^ i))))) (.slice (some ⟨g, 0, none⟩) N5 cap4) (encM T.length (clrM M i (k + 1)))) := by
                      have := HO.out.set (HLEN.out _).symm (T.length + k) ((wtN (M.wt k) T.length &&& (15 - 2 ^ i) : Nat) : Int)
                      rw [clr_step hT4 M hi hkl] at this
                      rw [hsh, hand]
                      exact this
                    clear hand hsh
                    have hI : (T.length : Int) + (k : Int) = ((T.length + k : Nat) : Int) := by omega
                    generalize hnk' : T.length + k = nk at *
                    have hnkI : (nk : Int) < (N5 : Int) := by omega
                    clear hnk'
                    generalize ((wtN (M.wt k) T.length : Nat) : Int) = WW at *
                    go_upto_region 29 with fail
                    go_region
                    clear hI
                    have HN3 : Hid (OwnI w.heap.size (wr.setCell ⟨g, nk, none⟩ (.int .i64 (bits .andNot .i64 WW (wrap64 ((2 : Int) ^ i))))).drew (.slice (some ⟨g, 0, none⟩) N5 cap4) (encM T.length (clrM M i (k + 1)))) := own_other HN.out (fun b _ => rfl)
                    have hb6 : Below w.heap.size w (wr.setCell ⟨g, nk, none⟩ (.int .i64 (bits .andNot .i64 WW (wrap64 ((2 : Int) ^ i))))).drew := (hbr.setCell (by show w.heap.size ≤ g; exact hgw) _).drew
                    obtain ⟨w6, hw6⟩ : ∃ x', x' = (wr.setCell ⟨g, nk, none⟩ (.int .i64 (bits .andNot .i64 WW (wrap64 ((2 : Int) ^ i))))).drew := ⟨_, rfl⟩
                    rw [← hw6] at HN3 hb6 ⊢
                    clear hw6 HN
                    go_wp2_with fail
                    go_roundw
                    case measure => simp [intOf]; omega
                    case rel => exact ⟨k + 1, by omega, by go_num, HN3.out, hb6⟩
                  · have hkI : ¬ (k : Int) < (T.length : Int) := by omega
                    obtain rfl : k = T.length := by omega
                    have HO6 : Hid (OwnI w.heap.size wr (.slice (some ⟨g, 0, none⟩) N5 cap4) (encM T.length (doMo M i x))) := by unfold Hid; rw [HD.out, ← clr_all]; exact HO.out
                    have hdp : (doMo M i x).pc = M.pc := doMo_pc M i x
                    obtain ⟨⟨k0, _, _⟩, l0, _, _⟩ := HCE.out wr (doMo M i x) HO6.out
                    replace k0 : wr.cell? ⟨g, i, none⟩ = some (.int .i64 (q : Int)) := by have := k0; rw [hdp, HQ.out] at this; exact this
                    have HF : Hid (OwnI w.heap.size (wr.setCell ⟨g, i, none⟩ (.int .i64 ((q : Int) + 2))) (.slice (some ⟨g, 0, none⟩) N5 cap4) (encM T.length { doMo M i x with pc := upd M.pc i (q + 2) })) := by
                      have := HPT.out wr (doMo M i x) (q + 2) HO6.out
                      rw [show ((q + 2 : Nat) : Int) = (q : Int) + 2 by omega, hdp] at this
                      exact this
                    have hbf : Below w.heap.size w (wr.setCell ⟨g, i, none⟩ (.int .i64 ((q : Int) + 2))) := hbr.setCell (by show w.heap.size ≤ g; exact hgw) _
                    clear hdp HO6 HO
                    go_wp2_with fail
                    go_ret
                    exact ⟨hbf, .inr ⟨_, _, HS'.out, rfl, HF.out⟩⟩
              · have HD : Hid (doMo M i x = M) := by
                  unfold Hid doMo
                  rw [if_neg (by simpa using h0), if_neg (by simpa using h1), if_neg (by simpa using h2), if_neg (by simpa using h3), if_neg (by simpa using h6)]
                have HF : Hid (OwnI w.heap.size (w5.setCell ⟨g, i, none⟩ (.int .i64 ((q : Int) + 2))) (.slice (some ⟨g, 0, none⟩) N5 cap4) (encM T.length { doMo M i x with pc := upd M.pc i (q + 2) })) := by
                  have := HPT.out w5 M (q + 2) HO5.out
                  rw [show ((q + 2 : Nat) : Int) = (q : Int) + 2 by omega] at this
                  rw [HD.out]
                  exact this
                have hbf : Below w.heap.size w (w5.setCell ⟨g, i, none⟩ (.int .i64 ((q : Int) + 2))) := hb5.setCell (by show w.heap.size ≤ g; exact hgw) _
                have HS' : Hid (stepMo T M i = some { doMo M i x with pc := upd M.pc i (q + 2) }) := HS
                clear HS HSTEP
                generalize hop : x.op = op at *
                go_wp2_with fail
                go_ret
                exact ⟨hbf, .inr ⟨_, _, HS'.out, rfl, HF.out⟩⟩
  · have hqI : ¬ ((q / 2 : Nat) : Int) < (l.length : Int) := by omega
    have HNO : Hid (stepMo T M i = none) := by
      unfold Hid stepMo
      rw [HL.out]
      simp only [HQ.out]
      rw [List.getElem?_eq_none (by omega)]
    clear HX HMAY
    generalize hp : q / 2 = p at *
    go_wp2_with fail
    go_ret
    exact ⟨hba, .inl ⟨HNO.out, rfl⟩⟩

end Go.Proofs.Ytomijmikkbhgmaa

namespace Go.Proofs.Ytomijmikkbhgmaa
open Go.RowKit

def prdN (T : List (List Ins)) : Nat → Nat
  | 0 => 1
  | k + 1 => prdN T k * (2 * (T.getD k []).length + 1)
def stdN (T : List (List Ins)) (M : Mo) : Nat → Nat
  | 0 => 0
  | k + 1 => stdN T M k * (2 * (T.getD k []).length + 1) + M.pc k
theorem prd_pos (T : List (List Ins)) (k : Nat) : 1 ≤ prdN T k := by
  induction k with
  | zero => exact Nat.le_refl _
  | succ k ih => rw [prdN]; exact Nat.mul_pos ih (by omega)
theorem getD_12 {T : List (List Ins)} (h : ∀ l ∈ T, l.length ≤ 12) (k : Nat) : (T.getD k []).length ≤ 12 := by
  rw [List.getD_eq_getElem?_getD]
  cases hk : T[k]? with
  | none => simp
  | some l => exact h l (List.mem_of_getElem? hk)
theorem prd_le {T : List (List Ins)} (h : ∀ l ∈ T, l.length ≤ 12) (k : Nat) : prdN T k ≤ 25 ^ k := by
  induction k with
  | zero => exact Nat.le_refl _
  | succ k ih =>
    rw [prdN, Nat.pow_succ]
    exact Nat.mul_le_mul ih (by have := getD_12 h k; omega)
theorem prd_4 {T : List (List Ins)} (h : ∀ l ∈ T, l.length ≤ 12) {k : Nat} (hk : k ≤ 4) : prdN T k ≤ 390625 := by
  have h1 := prd_le h k
  have h2 : 25 ^ k ≤ 25 ^ 4 := Nat.pow_le_pow_right (by omega) hk
  have h3 : (25 : Nat) ^ 4 = 390625 := by decide
  omega
theorem std_lt {T : List (List Ins)} {M : Mo} (hP : Pcs T M) {k : Nat} (hk : k ≤ T.length) : stdN T M k < prdN T k := by
  induction k with
  | zero => exact Nat.lt_succ_self _
  | succ k ih =>
    have h1 := ih (by omega)
    obtain ⟨l, hl⟩ := get_of_lt (l := T) (k := k) (by omega)
    have h2 := hP.le k l hl
    have e : T.getD k [] = l := by rw [List.getD_eq_getElem?_getD, hl]; rfl
    rw [stdN, prdN, e]
    have h3 : (stdN T M k + 1) * (2 * l.length + 1) ≤ prdN T k * (2 * l.length + 1) := Nat.mul_le_mul_right _ h1
    rw [Nat.add_mul] at h3
    omega

set_option maxRecDepth 20000 in
set_option maxHeartbeats 1000000 in
theorem standings_any (T : List (List Ins)) (fa : Bool) (c : List Atm) (hT4 : T.length ≤ 4) (hl12 : ∀ l ∈ T, l.length ≤ 12) (vt vc : Value) (w : World) (h : TestAt w (.agg #[vt, .bool fa, vc]) T fa c vt vc) :
    Calls Try.prog 52 #[.agg #[vt, .bool fa, vc]] w fun e w' => e = .returned (.int .i64 ((prdN T T.length : Nat) : Int)) ∧ Below w.heap.size w w' := by
  obtain ⟨ht0, aot, bt, offt, capt, htv, hta, _, htc⟩ := h.ht.opened
  obtain ⟨hc0, aoc, bc, offc, capc, hsc⟩ := h.hc
  have hcv := hsc.hv
  subst htv hcv
  have HC : Hid ((∀ k l, T[k]? = some l → ∃ ao' cap', w.cell? ⟨bt, offt + k, none⟩ = some (.slice ao' l.length cap')) ∧ (∀ l ∈ T, l.length ≤ 12)) := ⟨fun k l hk => by obtain ⟨_, ao', cap', q, _⟩ := htc k l hk; exact ⟨ao', cap', q⟩, hl12⟩
  clear h hsc htc hl12
  go_enter Try.func52, Try.ntmps52
  go_wp2_with fail
  have hba := below_alloc w (.cells #[.slice aot T.length capt, .bool fa, .slice aoc c.length capc] 25)
  have t00 : (w.alloc (.cells #[.slice aot T.length capt, .bool fa, .slice aoc c.length capc] 25)).cell? ⟨w.heap.size, 0, none⟩ = some (.slice aot T.length capt) := by simp
  obtain ⟨w1, hw1⟩ : ∃ x, x = w.alloc (.cells #[.slice aot T.length capt, .bool fa, .slice aoc c.length capc] 25) := ⟨_, rfl⟩
  rw [← hw1] at hba t00 ⊢
  clear hw1
  go_loopw [3, 4] (fun x y wr => ∃ k : Nat, k ≤ T.length ∧ x = .int .i64 ((prdN T k : Nat) : Int) ∧ y = .int .i64 k ∧ Below w1.heap.size w1 wr) (fun _ y _ => T.length - (intOf y).toNat)
  case atStart => exact ⟨0, Nat.zero_le _, rfl, rfl, Below.refl _ _⟩
  case round =>
    obtain ⟨k, hk, rfl, rfl, hb⟩ := hrel
    have t0 := keep_cell hb t00
    have hbw := below_more hba hb
    by_cases hlt : k < T.length
    · have hkI : (k : Int) < (T.length : Int) := by omega
      obtain ⟨l, hl⟩ := get_of_lt hlt
      obtain rfl := hta (ne_nil hlt)
      obtain ⟨ao', cap', c0⟩ := HC.out.1 k l hl
      have c1 := keep_cell hbw c0
      have hll := HC.out.2 l (List.mem_of_getElem? hl)
      have e2 : T.getD k [] = l := by rw [List.getD_eq_getElem?_getD, hl]; rfl
      have hP4 : prdN T (k + 1) ≤ 390625 := prd_4 HC.out.2 (by omega)
      have hE : ((prdN T k : Nat) : Int) * (2 * (l.length : Int) + 1) = ((prdN T (k + 1) : Nat) : Int) := by
        rw [prdN, e2]; push_cast; rfl
      clear hl c0 e2
      generalize l.length = ll at *
      generalize prdN T k = pk at *
      generalize hpn : prdN T (k + 1) = pn at *
      have HPN : Hid (prdN T (k + 1) = pn) := hpn
      clear hpn
      go_wp2_with fail
      go_roundw
      case measure => simp [intOf]; omega
      case rel => exact ⟨k + 1, by omega, by rw [HPN.out], by go_num, hb⟩
    · have hkI : ¬ (k : Int) < (T.length : Int) := by omega
      obtain rfl : k = T.length := by omega
      go_wp2_with fail
      go_ret
      exact ⟨rfl, hbw⟩

set_option maxRecDepth 20000 in
set_option maxHeartbeats 1000000 in
theorem standing_any (T : List (List Ins)) (fa : Bool) (c : List Atm) (hT4 : T.length ≤ 4) (hl12 : ∀ l ∈ T, l.length ≤ 12) (M : Mo) (hP : Pcs T M) (vt vc v : Value) (w : World) (h : TestAt w (.agg #[vt, .bool fa, vc]) T fa c vt vc) (hv : IntAt w v (encM T.length M)) :
    Calls Try.prog 56 #[.agg #[vt, .bool fa, vc], v] w fun e w' => e = .returned (.int .i64 ((stdN T M T.length : Nat) : Int)) ∧ Below w.heap.size w w' := by
  obtain ⟨ht0, aot, bt, offt, capt, htv, hta, _, htc⟩ := h.ht.opened
  obtain ⟨hc0, aoc, bc, offc, capc, hsc⟩ := h.hc
  obtain ⟨ao2, b2, off2, cap2, hv2, ha2, _, hc2⟩ := hv
  have hcv := hsc.hv
  subst htv hcv hv2
  obtain rfl := ha2 (by intro e; have := enc_len T.length M; rw [e] at this; simp at this)
  have HC : Hid ((∀ k l, T[k]? = some l → ∃ ao' cap', w.cell? ⟨bt, offt + k, none⟩ = some (.slice ao' l.length cap')) ∧ (∀ l ∈ T, l.length ≤ 12) ∧ (∀ k, k < T.length → w.cell? ⟨b2, off2 + k, none⟩ = some (.int .i64 (M.pc k : Int))) ∧ ∀ k, k ≤ T.length → stdN T M k < prdN T k) := ⟨fun k l hk => by obtain ⟨_, ao', cap', q, _⟩ := htc k l hk; exact ⟨ao', cap', q⟩, hl12, fun k hk => by
    have := hc2 k _ (enc_pc M hk)
    rw [Nat.mul_one] at this
    exact this, fun k hk => std_lt hP hk⟩
  rw [enc_len]
  clear h hsc htc hc2 hl12 ha2 hP
  go_enter Try.func56, Try.ntmps56
  go_wp2_with fail
  have hba := below_alloc w (.cells #[.slice aot T.length capt, .bool fa, .slice aoc c.length capc] 25)
  have t00 : (w.alloc (.cells #[.slice aot T.length capt, .bool fa, .slice aoc c.length capc] 25)).cell? ⟨w.heap.size, 0, none⟩ = some (.slice aot T.length capt) := by simp
  obtain ⟨w1, hw1⟩ : ∃ x, x = w.alloc (.cells #[.slice aot T.length capt, .bool fa, .slice aoc c.length capc] 25) := ⟨_, rfl⟩
  rw [← hw1] at hba t00 ⊢
  clear hw1
  generalize hN5 : 5 * T.length + 3 = N5 at *
  have hn5 : T.length ≤ N5 := by omega
  clear hN5
  go_loopw [5, 6] (fun x y wr => ∃ k : Nat, k ≤ T.length ∧ x = .int .i64 ((stdN T M k : Nat) : Int) ∧ y = .int .i64 k ∧ Below w1.heap.size w1 wr) (fun _ y _ => T.length - (intOf y).toNat)
  case atStart => exact ⟨0, Nat.zero_le _, rfl, rfl, Below.refl _ _⟩
  case round =>
    obtain ⟨k, hk, rfl, rfl, hb⟩ := hrel
    have t0 := keep_cell hb t00
    have hbw := below_more hba hb
    by_cases hlt : k < T.length
    · have hkI : (k : Int) < (T.length : Int) := by omega
      have hkI5 : (k : Int) < (N5 : Int) := by omega
      obtain ⟨l, hl⟩ := get_of_lt hlt
      obtain rfl := hta (ne_nil hlt)
      obtain ⟨ao', cap', c0⟩ := HC.out.1 k l hl
      have c1 := keep_cell hbw c0
      have d1 := keep_cell hbw (HC.out.2.2.1 k hlt)
      have hll := HC.out.2.1 l (List.mem_of_getElem? hl)
      have e2 : T.getD k [] = l := by rw [List.getD_eq_getElem?_getD, hl]; rfl
      have hP4 : stdN T M (k + 1) ≤ 390625 := by have h1 := prd_4 HC.out.2.1 (k := k + 1) (by omega); have h2 := HC.out.2.2.2 (k + 1) (by omega); omega
      obtain ⟨pm, hpm⟩ : ∃ pm : Nat, pm = stdN T M k * (2 * l.length + 1) := ⟨_, rfl⟩
      have hE0 : stdN T M (k + 1) = pm + M.pc k := by rw [stdN, e2, hpm]
      have hE : ((stdN T M k : Nat) : Int) * (2 * (l.length : Int) + 1) = ((pm : Nat) : Int) := by
        rw [hpm]; push_cast; rfl
      have HPN : Hid (stdN T M (k + 1) = pm + M.pc k) := hE0
      have hpmb : pm + M.pc k ≤ 390625 := by omega
      clear hl c0 e2 hpm hE0 hP4
      generalize l.length = ll at *
      generalize stdN T M k = pk at *
      generalize M.pc k = qk at *
      go_wp2_with fail
      go_quiet (fail)
      go_wp2_with fail
      go_roundw
      case measure => simp [intOf]; omega
      case rel => exact ⟨k + 1, by omega, by rw [HPN.out]; go_num, by go_num, below_drewN hb _⟩
    · have hkI : ¬ (k : Int) < (T.length : Int) := by omega
      obtain rfl : k = T.length := by omega
      go_wp2_with fail
      go_ret
      exact ⟨rfl, hbw⟩

/-! what a step does hangs on what the moment holds -/
structure EqM (n : Nat) (M M' : Mo) : Prop where
  pc : ∀ i, i < n → M.pc i = M'.pc i
  wt : ∀ i, i < n → ∀ k, k < n → M.wt i k = M'.wt i k
  rg : ∀ i, i < n → ∀ r, r < 3 → M.rg i r = M'.rg i r
  lc : ∀ a, a < 3 → M.lc a = M'.lc a

theorem enc_eqM {n : Nat} {M M' : Mo} (h : encM n M = encM n M') : EqM n M M' := by
  refine ⟨fun i hi => ?_, fun i hi k hk => ?_, fun i hi r hr => ?_, fun a ha => ?_⟩
  · have h1 := enc_pc M hi
    rw [h, enc_pc M' hi] at h1
    have := Option.some.inj h1
    omega
  · have h1 := enc_wt M hi
    rw [h, enc_wt M' hi] at h1
    have h2 : wtN (M'.wt i) n = wtN (M.wt i) n := by have := Option.some.inj h1; omega
    have e1 := wtN_bit (M.wt i) n k hk
    have e2 := wtN_bit (M'.wt i) n k hk
    rw [h2, e1] at e2
    exact e2
  · have h1 := enc_tail (n := n) M (3 * i + r)
    rw [tail_rg M hi hr, h, enc_tail, tail_rg M' hi hr] at h1
    exact (Option.some.inj h1).symm
  · have h1 := enc_tail (n := n) M (3 * n + a)
    rw [tail_lc M ha, h, enc_tail, tail_lc M' ha] at h1
    exact (Option.some.inj h1).symm
theorem EqM.enc {n : Nat} {M M' : Mo} (h : EqM n M M') : encM n M = encM n M' := by
  refine enc_ext (enc_len n M) (fun i hi => by rw [enc_pc M hi, h.pc i hi]) (fun i hi => ?_) (fun i r hi hr => by rw [enc_tail, tail_rg M hi hr, h.rg i hi r hr]) (fun a ha => by rw [enc_tail, tail_lc M ha, h.lc a ha])
  rw [enc_wt M hi, wtN_congr (h.wt i hi)]

theorem EqM.do {n : Nat} {M M' : Mo} (h : EqM n M M') {i : Nat} (hi : i < n) {x : Ins} (hx : mayB x = true) : EqM n (doMo M i x) (doMo M' i x) := by
  obtain ⟨⟨a, ha, hxa⟩, r, hr, hxr⟩ := may_lr hx
  have ea : x.loc.toNat = a := by omega
  have er : x.reg.toNat = r := by omega
  have hup : ∀ (f g : Nat → Int) (k j : Nat) (u v : Int), (∀ t, t < 3 → f t = g t) → u = v → j < 3 → upd f k u j = upd g k v j := fun f g k j u v h1 h2 h3 => by
    unfold upd
    split
    · exact h2
    · exact h1 j h3
  have hur : ∀ (v v' : Int), v = v' → ∀ j, j < n → ∀ t, t < 3 → upd M.rg i (upd (M.rg i) r v) j t = upd M'.rg i (upd (M'.rg i) r v') j t := fun v v' hv j hj t ht => by
    by_cases hji : j = i
    · subst hji
      rw [upd_self, upd_self]
      exact hup _ _ _ _ _ _ (h.rg j hj) hv ht
    · rw [upd_ne _ _ hji, upd_ne _ _ hji]
      exact h.rg j hj t ht
  unfold doMo
  rw [ea, er]
  repeat' split
  · exact ⟨h.pc, h.wt, h.rg, fun b hb => hup _ _ _ _ _ _ h.lc rfl hb⟩
  · exact ⟨h.pc, h.wt, h.rg, fun b hb => hup _ _ _ _ _ _ h.lc (h.rg i hi r hr) hb⟩
  · exact ⟨h.pc, h.wt, hur _ _ (h.lc a ha), h.lc⟩
  · exact ⟨h.pc, h.wt, hur _ _ (h.lc a ha), fun b hb => hup _ _ _ _ _ _ h.lc rfl hb⟩
  · exact ⟨h.pc, fun j hj k hk => by show (if k = i then false else M.wt j k) = (if k = i then false else M'.wt j k); rw [h.wt j hj k hk], h.rg, h.lc⟩
  · exact h

theorem EqM.step {T : List (List Ins)} (hmay : ∀ l ∈ T, ∀ x ∈ l, mayB x = true) {M M' : Mo} (h : EqM T.length M M') {i : Nat} (hi : i < T.length) {N : Mo} (hs : stepMo T M i = some N) : ∃ N', stepMo T M' i = some N' ∧ EqM T.length N N' := by
  obtain ⟨l, hl⟩ := get_of_lt hi
  obtain ⟨x, hx, hk⟩ := step_kind hl hs
  have hx' : l[M'.pc i / 2]? = some x := by rw [← h.pc i hi]; exact hx
  have hpc : ∀ q q', q = q' → ∀ j, j < T.length → upd M.pc i q j = upd M'.pc i q' j := fun q q' e j hj => by
    unfold upd
    split
    · exact e
    · exact h.pc j hj
  have hin : ∀ k, k < T.length → inK T M k = inK T M' k := fun k hk => by
    unfold inK
    rw [h.pc k hk]
  cases hk with
  | begin h7 hq hM =>
    subst hM
    refine ⟨_, step_begin hl hx' h7 (by rw [← h.pc i hi]; exact hq), hpc _ _ (by rw [h.pc i hi]), fun j hj k hk => ?_, h.rg, h.lc⟩
    show upd M.wt i _ j k = upd M'.wt i _ j k
    by_cases hji : j = i
    · subst hji
      rw [upd_self, upd_self, h.wt j hj k hk, hin k hk]
    · rw [upd_ne _ _ hji, upd_ne _ _ hji]
      exact h.wt j hj k hk
  | finish h7 hq hw hM =>
    subst hM
    exact ⟨_, step_finish hl hx' h7 (by rw [← h.pc i hi]; exact hq) (fun k hk => by rw [← h.wt i hi k hk]; exact hw k hk), hpc _ _ (by rw [h.pc i hi]), h.wt, h.rg, h.lc⟩
  | other h7 hM =>
    subst hM
    have hd := h.do hi (hmay l (List.mem_of_getElem? hl) x (List.mem_of_getElem? hx))
    exact ⟨_, step_other hl hx' h7, hpc _ _ (by rw [h.pc i hi]), hd.wt, hd.rg, hd.lc⟩

end Go.Proofs.Ytomijmikkbhgmaa
