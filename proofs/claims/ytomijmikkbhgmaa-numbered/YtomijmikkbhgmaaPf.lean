import Derived.Test.YtomijmikkbhgmaaT16
import Derived.Test.YtomijmikkbhgmaaT17
import Derived.Test.YtomijmikkbhgmaaPe
import Derived.Deep.OwnRows
import Derived.BigQuiet
namespace Go.Proofs.Ytomijmikkbhgmaa
open Go.RowKit

theorem picks_mis {E R : List Evt} {y : Evt} {l : List Int} (h : picks l (rdo E (y :: R))) (hy : (y.kind == 0) = false) : picks l (rdo E R) := by
  rw [rdo, if_neg (by simp [hy])] at h; exact h

theorem picks_hit {E R : List Evt} {y : Evt} {l : List Int} {k : Nat} (h : picks (l.drop k) (rdo E (y :: R))) (hy : (y.kind == 0) = true) : ∃ a, l[k]? = some a ∧ a ∈ -1 :: wrs E 0 y.loc ∧ picks (l.drop (k + 1)) (rdo E R) := by
  rw [rdo, if_pos hy] at h
  by_cases hk : k < l.length
  · obtain ⟨a, ha⟩ := get_of_lt hk
    rw [drop_cons ha] at h
    exact ⟨a, ha, h.1, h.2⟩
  · rw [drop_nil hk] at h
    exact h.elim

theorem picks_done {E : List Evt} {l : List Int} {k : Nat} (h : picks (l.drop k) (rdo E [])) (hk : k ≤ l.length) : k = l.length := by
  rw [rdo] at h
  by_cases hlt : k < l.length
  · obtain ⟨a, ha⟩ := get_of_lt hlt
    rw [drop_cons ha] at h
    exact h.elim
  · omega

theorem wr_place {E : List Evt} {loc a : Int} (h : a ∈ wrs E 0 loc) : ∃ q z, a = ((q : Nat) : Int) ∧ E[q]? = some z ∧ z.kind = 1 ∧ z.loc = loc := by
  obtain ⟨i, x, h1, h2, h3, h4⟩ := wrs_mem h
  exact ⟨i, x, by rw [h2]; congr 1; omega, h1, h3, h4⟩

theorem Drawn.place {E : List Evt} {x : Exe} (h : Drawn E x) {loc j : Nat} {l : List Int} {a : Int} (hl : x.order[loc]? = some l) (ha : l[j]? = some a) : ∃ q z, a = ((q : Nat) : Int) ∧ E[q]? = some z ∧ z.kind = 1 ∧ z.loc = (loc : Int) :=
  wr_place ((h.row hl).mem_iff.1 (List.mem_of_getElem? ha))

theorem Drawn.len {E : List Evt} {x : Exe} (h : Drawn E x) (hE : E.length ≤ 96) : x.order.length = 3 ∧ x.order.flatten.length ≤ 288 ∧ ∀ l ∈ x.order, l.length ≤ 96 := by
  obtain ⟨a, b, c, ho, ha, hb, hc⟩ := h.o
  have h0 := ha.length_eq; have h1 := hb.length_eq; have h2 := hc.length_eq
  have k0 := wrs_len E 0 0; have k1 := wrs_len E 0 1; have k2 := wrs_len E 0 2
  rw [ho]
  refine ⟨rfl, by simp; omega, fun l hl => ?_⟩
  simp only [List.mem_cons, List.not_mem_nil, or_false] at hl
  rcases hl with rfl | rfl | rfl <;> omega

theorem picks_len (l : List Int) (os : List (List Int)) (h : picks l os) : l.length = os.length := by
  induction l generalizing os with
  | nil => cases os with
    | nil => rfl
    | cons o os => exact h.elim
  | cons a l ih => cases os with
    | nil => exact h.elim
    | cons o os => rw [List.length_cons, List.length_cons, ih os h.2]

theorem Drawn.flen {E : List Evt} {x : Exe} (h : Drawn E x) (hE : E.length ≤ 96) : x.from'.length ≤ 96 := by
  rw [picks_len _ _ h.f, rdo_eq E E 0, List.length_map]
  have := rdsX_len E 0
  omega

/-- How often each event has stood by now. -/
structure Tms (w wr : World) (vf vo : Value) (bT n : Nat) (P : List Int) : Prop where
  hb : Below w.heap.size w wr
  c0 : wr.cell? ⟨w.heap.size, 0, none⟩ = some vf
  c1 : wr.cell? ⟨w.heap.size, 1, none⟩ = some vo
  row : wr.rowIs bT 3 n (fun i => .int .i64 (P.count (i : Int) : Nat))
  n1 : w.heap.size + 1 ≤ bT

theorem Tms.start {w wr : World} {vf vo : Value} (hb : Below w.heap.size w wr) (c0 : wr.cell? ⟨w.heap.size, 0, none⟩ = some vf) (c1 : wr.cell? ⟨w.heap.size, 1, none⟩ = some vo) (n : Nat) : Tms w (wr.alloc (.cells (madeCells #[.int .i64 0] n) 3)) vf vo wr.heap.size n [] := by
  have s := World.block_lt_of_cell? _ _ c0
  exact ⟨hb.alloc hb.size _, keep_cell (below_alloc _ _) c0, keep_cell (below_alloc _ _) c1, (World.rowIs_made wr (.int .i64 0) n 3).congr fun i _ => by simp, s⟩

theorem Tms.set {w wr : World} {vf vo : Value} {bT n : Nat} {P : List Int} (h : Tms w wr vf vo bT n P) (q : Nat) : Tms w (wr.setCell ⟨bT, q, none⟩ (.int .i64 ((P.count (q : Int) : Nat) + 1))) vf vo bT n (P ++ [(q : Int)]) := by
  have n1 := h.n1
  refine ⟨h.hb.setCell (by simp; omega) _, cell_setO h.c0 (by omega), cell_setO h.c1 (by omega), (h.row.set q _).congr fun i _ => ?_, h.n1⟩
  rw [List.count_append]
  by_cases e : i = q
  · subst e; simp
  · have : ((q : Int) == (i : Int)) = false := by simp; omega
    simp [e, List.count_cons, this]

set_option maxRecDepth 20000 in
set_option maxHeartbeats 2000000 in
theorem drawn_any (E : List Evt) (hE : E.length ≤ 96) (hloc : ∀ y ∈ E, locB y.loc = true) (x : Exe) (hd : Drawn E x) (v vf vo : Value) (w : World) (hev : Ev4At w v E) (hx : ExeAt w vf vo x) :
    Calls Try.prog 25 #[v, .agg #[vf, vo]] w fun e w' => e = .returned (.bool true) ∧ Below w.heap.size w w' := by
  obtain ⟨ao, b, off, cap, hv, ha, _, hc⟩ := hev
  obtain ⟨aof, bf, off2, capf, hvf, haf, _, hcf⟩ := hx.f
  obtain ⟨aoo, bo, off3, capo, hvo, hao, _, hco⟩ := hx.o
  subst hv hvf hvo
  obtain ⟨l3, lfl, lls⟩ := hd.len hE
  have HC : Hid (∀ k y, E[k]? = some y → Ev4C w b (off + k * 4) y) := hc
  have HF : Hid (∀ k a, x.from'[k]? = some a → IntC w bf (off2 + k * 1) a) := hcf
  have HO : Hid (∀ k l, x.order[k]? = some l → LC w bo (off3 + k * 1) l) := hco
  have HD : Hid (Drawn E x ∧ ∀ y ∈ E, locB y.loc = true) := ⟨hd, hloc⟩
  have HFL : Hid (x.order.flatten.length ≤ 288) := lfl
  have HLS : Hid (∀ l ∈ x.order, l.length ≤ 96) := lls
  have H3 : Hid (x.order.length = 3) := l3
  have hP : Hid (picks (x.from'.drop 0) (rdo E (E.drop 0))) := hd.f
  have hfl := hd.flen hE
  rw [l3]
  clear hc hcf hco hd hloc lls hx l3 lfl
  have hmk := run_make_row' (P := Try.prog) 37 3 (.int .i64 0) 8 Try.underlying37 Try.info3 rfl .i64 .i64 E.length (by omega) (by omega)
  go_enter Try.func25, Try.ntmps25
  go_wp2_with fail
  go_loopw [5, 6] (fun kv i wr => ∃ (n k : Nat), n ≤ E.length ∧ i = .int .i64 n ∧ k ≤ x.from'.length ∧ kv = .int .i64 k ∧ Hid (picks (x.from'.drop k) (rdo E (E.drop n))) ∧ Below w.heap.size w wr ∧ wr.cell? ⟨w.heap.size, 0, none⟩ = some (.slice aof x.from'.length capf) ∧ wr.cell? ⟨w.heap.size, 1, none⟩ = some (.slice aoo 3 capo)) (fun _ i _ => E.length - (intOf i).toNat)
  case atStart => exact ⟨0, 0, Nat.zero_le _, rfl, Nat.zero_le _, rfl, hP.out, below_alloc _ _, by simp, by simp⟩
  case round =>
    clear hP
    obtain ⟨n, k, hn, rfl, hk, rfl, hp, hb, d0, d1⟩ := hrel
    by_cases hlt : n < E.length
    · obtain ⟨y, hy⟩ := get_of_lt hlt
      have hC := HC.out n y hy
      have hbl := World.block_lt_of_cell? _ _ hC.c0
      obtain rfl := ha (ne_nil hlt)
      obtain ⟨_, _, c2, c3⟩ := ev4C_keeps _ _ _ _ _ hb hC
      have HP : Hid (picks (x.from'.drop k) (rdo E (y :: E.drop (n + 1)))) := by rw [← drop_cons hy]; exact hp
      have hnI : (n : Int) < (E.length : Int) := by omega
      clear hp hC hy
      cases hk0 : y.kind == 0
      · have HM : Hid (picks (x.from'.drop k) (rdo E (E.drop (n + 1)))) := picks_mis HP.out hk0
        have hk1 : (y.kind != 0) = true := by simp [bne, hk0]
        clear HP
        go_wp2_with fail
        go_roundw
        case measure => simp [intOf]; omega
        case rel => exact ⟨n + 1, k, by omega, by go_num, hk, rfl, HM.out, hb, d0, d1⟩
      · obtain ⟨a, hak, ham, hpn⟩ := picks_hit HP.out hk0
        have hk1 : (y.kind != 0) = false := by simp [bne, hk0]
        have hkl : k < x.from'.length := (List.getElem?_eq_some_iff.1 hak).1
        have HM : Hid (picks (x.from'.drop (k + 1)) (rdo E (E.drop (n + 1)))) := hpn
        have f0 := intC_keeps _ _ _ _ _ hb (HF.out k a hak)
        obtain rfl := haf (ne_nil hkl)
        unfold IntC at f0
        rw [Nat.mul_one] at f0
        have hkI : (k : Int) < (x.from'.length : Int) := by omega
        clear HP hpn hak
        rcases List.mem_cons.1 ham with rfl | haw
        · clear ham
          go_wp2_with fail
          go_quiet (fail)
          go_wp2_with fail
          go_roundw
          case measure => simp [intOf]; omega
          case rel => exact ⟨n + 1, k + 1, by omega, by go_num, by omega, by go_num, HM.out, below_drewN hb _, by simpa using d0, by simpa using d1⟩
        · obtain ⟨q, z, rfl, hz, hz1, hz2⟩ := wr_place haw
          have hql : q < E.length := (List.getElem?_eq_some_iff.1 hz).1
          obtain ⟨_, _, z2, z3⟩ := ev4C_keeps _ _ _ _ _ hb (HC.out q z hz)
          rw [hz1] at z2
          rw [hz2] at z3
          have hqI : (q : Int) < (E.length : Int) := by omega
          have g0 : ((q : Int) != -1) = true := by simp
          have g1 : (y.loc != y.loc) = false := by simp
          clear ham haw hz hz1 hz2
          go_wp2_with fail
          go_quiet (fail)
          go_wp2_with fail
          go_roundw
          case measure => simp [intOf]; omega
          case rel => exact ⟨n + 1, k + 1, by omega, by go_num, by omega, by go_num, HM.out, below_drewN hb _, by simpa using d0, by simpa using d1⟩
    · have e1 : k = x.from'.length := picks_done (E := E) (by have := hp.out; rw [drop_nil hlt] at this; exact this) hk
      subst e1
      have HT0 : Hid (Tms w (wr.alloc (.cells (madeCells #[.int .i64 0] E.length) 3)) (.slice aof x.from'.length capf) (.slice aoo 3 capo) wr.heap.size E.length []) := Tms.start hb d0 d1 E.length
      have hbw := hb.size
      have m0 := World.block_lt_of_cell? _ _ d0
      clear hp
      go_wp2_with fail
      clear hmk d0 d1 hb hbw m0
      generalize wr.heap.size = bT at HT0 ⊢
      go_loopw [9] (fun i wy => ∃ (loc : Nat) (P : List Int), loc ≤ 3 ∧ i = .int .i64 loc ∧ Hid (x.order.flatten = P ++ (x.order.drop loc).flatten) ∧ Hid (Tms w wy (.slice aof x.from'.length capf) (.slice aoo 3 capo) bT E.length P)) (fun i _ => 3 - (intOf i).toNat)
      case atStart => exact ⟨0, [], by omega, rfl, rfl, HT0.out⟩
      case round =>
        clear HT0
        obtain ⟨loc, P, hloc3, rfl, hn, htm⟩ := hrel
        obtain ⟨hb2, d2, d3, _, n1⟩ := htm.out
        by_cases hl3 : loc < 3
        · have hlo : loc < x.order.length := by have := H3.out; omega
          obtain ⟨l, hl⟩ := get_of_lt hlo
          obtain ⟨u1, o0, ao5, b5, off5, cap5, hv5, ha5, _, hc5⟩ := HO.out loc l hl
          subst hv5
          rw [Nat.mul_one] at o0
          obtain rfl := hao (ne_nil hlo)
          have HI5 : Hid (∀ k a, l[k]? = some a → IntC w b5 (off5 + k * 1) a) := hc5
          have HLL : Hid (x.order[loc]? = some l) := hl
          have hl96 := HLS.out l (List.mem_of_getElem? hl)
          have HN : Hid (x.order.flatten = P ++ (l.drop 0 ++ (x.order.drop (loc + 1)).flatten)) := hn.out.trans (by rw [drop_cons hl]; rfl)
          have HTM : Hid (Tms w wr (.slice aof x.from'.length capf) (.slice (some ⟨bo, off3, none⟩) 3 capo) bT E.length P) := htm.out
          have o1 := keep_cell hb2 o0
          clear hc5 hl hn htm hlo
          go_wp2_with fail
          go_loopw [10] (fun i wz => ∃ (j : Nat) (P : List Int), j ≤ l.length ∧ i = .int .i64 j ∧ Hid (x.order.flatten = P ++ (l.drop j ++ (x.order.drop (loc + 1)).flatten)) ∧ Hid (Tms w wz (.slice aof x.from'.length capf) (.slice (some ⟨bo, off3, none⟩) 3 capo) bT E.length P)) (fun i _ => l.length - (intOf i).toNat)
          case atStart => exact ⟨0, P, Nat.zero_le _, rfl, HN.out, HTM.out⟩
          case round =>
            clear HTM HN hb2 d2 d3 o1
            obtain ⟨j, P2, hj, rfl, hn, htm⟩ := hrel
            obtain ⟨hb3, d4, d5, row, _⟩ := htm.out
            have o2 := keep_cell hb3 o0
            by_cases hjl : j < l.length
            · obtain ⟨a, hja⟩ := get_of_lt hjl
              obtain rfl := ha5 (ne_nil hjl)
              have f5 := intC_keeps _ _ _ _ _ hb3 (HI5.out j a hja)
              unfold IntC at f5
              rw [Nat.mul_one] at f5
              obtain ⟨q, z, rfl, hz, hz1, hz2⟩ := HD.out.1.place HLL.out hja
              have hql : q < E.length := (List.getElem?_eq_some_iff.1 hz).1
              obtain ⟨_, _, z2, z3⟩ := ev4C_keeps _ _ _ _ _ hb3 (HC.out q z hz)
              rw [hz1] at z2
              rw [hz2] at z3
              obtain rfl := ha (ne_nil hql)
              have t0 := row.cell hql
              have t1 := row.frozen q
              have HM : Hid (x.order.flatten = (P2 ++ [(q : Int)]) ++ (l.drop (j + 1) ++ (x.order.drop (loc + 1)).flatten)) := hn.out.trans (by rw [drop_cons hja]; simp)
              have hcn : P2.count (q : Int) ≤ 288 := by
                have h1 := congrArg List.length hn.out
                have h2 := HFL.out
                have h3 := List.count_le_length (a := (q : Int)) (l := P2)
                rw [List.length_append] at h1
                omega
              have HTM : Hid (Tms w wr (.slice aof x.from'.length capf) (.slice (some ⟨bo, off3, none⟩) 3 capo) bT E.length P2) := htm.out
              generalize hcq : P2.count (q : Int) = cn at hcn t0
              have HCQ : Hid (P2.count (q : Int) = cn) := hcq
              have hqI : (q : Int) < (E.length : Int) := by omega
              have hjI : (j : Int) < (l.length : Int) := by omega
              have g1 : ((loc : Int) != (loc : Int)) = false := by simp
              clear hn hja hz hz1 hz2 hcq row htm
              go_wp2_with fail
              go_roundw
              case measure => simp [intOf]; omega
              case rel => exact ⟨j + 1, P2 ++ [(q : Int)], by omega, by go_num, HM.out, by rw [← HCQ.out]; exact HTM.out.set q⟩
            · have HM : Hid (x.order.flatten = P2 ++ (x.order.drop (loc + 1)).flatten) := hn.out.trans (by rw [drop_nil hjl]; rfl)
              have HTM := htm
              have hjI : (l.length : Int) ≤ (j : Int) := by omega
              clear hn htm row
              go_wp2_with fail
              go_roundw
              case measure => simp [intOf]; omega
              case rel => exact ⟨loc + 1, P2, by omega, by go_num, HM.out, HTM.out⟩
        · have e3 : loc = 3 := by omega
          subst e3
          have HP3 : Hid (P = x.order.flatten) := by
            have := hn.out
            rw [drop_nil (l := x.order) (k := 3) (by rw [H3.out]; omega)] at this
            have h4 : P = x.order.flatten := by simpa using this.symm
            exact h4
          have HTM : Hid (Tms w wr (.slice aof x.from'.length capf) (.slice aoo 3 capo) bT E.length x.order.flatten) := by rw [← HP3.out]; exact htm.out
          clear hn htm hb2
          go_wp2_with fail
          go_loopw [12] (fun i wz => ∃ m : Nat, m ≤ E.length ∧ i = .int .i64 m ∧ Hid (Tms w wz (.slice aof x.from'.length capf) (.slice aoo 3 capo) bT E.length x.order.flatten)) (fun i _ => E.length - (intOf i).toNat)
          case atStart => exact ⟨0, Nat.zero_le _, rfl, HTM.out⟩
          case round =>
            clear HTM d2 d3
            obtain ⟨m, hm, rfl, htm⟩ := hrel
            obtain ⟨hb3, d4, _, row, _⟩ := htm.out
            by_cases hml : m < E.length
            · obtain ⟨y, hy⟩ := get_of_lt hml
              obtain rfl := ha (ne_nil hml)
              obtain ⟨_, _, c2, _⟩ := ev4C_keeps _ _ _ _ _ hb3 (HC.out m y hy)
              have hmI : (m : Int) < (E.length : Int) := by omega
              have HTM := htm
              have t0 := row.cell hml
              cases hk1 : y.kind == 1
              · clear htm row hy t0
                go_wp2_with fail
                go_roundw
                case measure => simp [intOf]; omega
                case rel => exact ⟨m + 1, by omega, by go_num, HTM.out⟩
              · have ho := HD.out.1.once HD.out.2 hy (by simpa using hk1)
                rw [ho] at t0
                simp only [Int.cast_ofNat_Int] at t0
                clear htm row hy ho
                go_wp2_with fail
                go_roundw
                case measure => simp [intOf]; omega
                case rel => exact ⟨m + 1, by omega, by go_num, HTM.out⟩
            · have g2 : ((x.from'.length : Int) == (x.from'.length : Int)) = true := by simp
              have hmI : (E.length : Int) ≤ (m : Int) := by omega
              clear htm row
              go_wp2_with fail
              go_ret
              exact ⟨rfl, hb3⟩

end Go.Proofs.Ytomijmikkbhgmaa
