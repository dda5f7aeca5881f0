import Derived.Test.YtomijmikkbhgmaaGreatT37
import Derived.Test.YtomijmikkbhgmaaGreatT13
import Derived.Test.YtomijmikkbhgmaaGreatT4
import Derived.StillTailTactics
namespace Go.Proofs.YtomijmikkbhgmaaGreat
open Go.RowKit

/-- A block with room for n cells. -/
def Shp (w : World) (b : Nat) (t : TypeId) (n : Nat) : Prop := ∃ cur, w.heap[b]? = some (.cells cur t (0, 0)) ∧ n ≤ cur.size
theorem Shp.cell {w : World} {b : Nat} {t : TypeId} {n : Nat} (h : Shp w b t n) {j : Nat} (hj : j < n) : (∃ z, w.cell? ⟨b, j, none⟩ = some z) ∧ w.frozen? ⟨b, j, none⟩ = false := by
  obtain ⟨cur, h1, h2⟩ := h
  refine ⟨⟨cur[j], ?_⟩, frozen_of_row _ _ _ _ _ h1⟩
  rw [cell_of_row _ _ _ _ _ _ h1]
  simp
theorem Shp.set {w : World} {b : Nat} {t : TypeId} {n : Nat} (h : Shp w b t n) (b' o : Nat) (v : Value) : Shp (w.setCell ⟨b', o, none⟩ v) b t n := by
  obtain ⟨cur, h1, h2⟩ := h
  by_cases e : b = b'
  · subst e
    exact ⟨_, heap_setCell_same _ _ _ _ _ _ h1, by simpa using h2⟩
  · exact ⟨cur, by rw [Below.heap_setCell _ _ _ _ e]; exact h1, h2⟩
theorem Shp.keep {w w' : World} {b : Nat} {t : TypeId} {n : Nat} (h : Shp w b t n) (hb : Below w.heap.size w w') : Shp w' b t n := by
  obtain ⟨cur, h1, h2⟩ := h
  exact ⟨cur, (hb.block b (heap_ltA h1)).trans h1, h2⟩
theorem Shp.own {w : World} {base : Nat} {e : TypeId} {g n cap : Nat} {xs : List Value} (h : w.ownsRow base e 1 (.slice (some ⟨g, 0, none⟩) n cap) n xs) : Shp w g e n := by
  rcases h.2 with ⟨q, _⟩ | ⟨g', cap', cur, q, _, hh, q1, _, q2, _⟩
  · cases q
  · cases q; exact ⟨cur, hh, by omega⟩

/-- As an execution that was handed in is written over. -/
structure EK (B H : Nat) (w wr : World) (gf nf g : Nat) (us : List Value) (k : Nat) : Prop where
  btw : Btw B H w wr
  gb : B ≤ g ∧ g < H
  gfb : B ≤ gf ∧ gf < H
  frm : Shp wr gf 3 nf
  ord : Shp wr g 26 us.length
  row : ∀ (j : Nat) (u : Value), k ≤ j → us[j]? = some u → wr.cell? ⟨g, j, none⟩ = some u
  shp : ∀ (j : Nat) (u : Value), us[j]? = some u → ∃ gu n cap, u = .slice (some ⟨gu, 0, none⟩) n cap ∧ B ≤ gu ∧ gu < H ∧ n ≤ 4000000 ∧ Shp wr gu 3 n
theorem EK.setI {B H : Nat} {w wr : World} {gf nf g : Nat} {us : List Value} {k : Nat} (h : EK B H w wr gf nf g us k) {b n : Nat} (hb : Shp wr b 3 n) (hB : B ≤ b ∧ b < H) (o : Nat) (v : Value) : EK B H w (wr.setCell ⟨b, o, none⟩ v) gf nf g us k := by
  have hne : g ≠ b := fun e => by
    obtain ⟨c1, q1, _⟩ := h.ord
    obtain ⟨c2, q2, _⟩ := hb
    rw [← e, q1] at q2
    cases q2
  refine ⟨h.btw.trans (Btw.of_only (Only.setCellN b o v wr) hB), h.gb, h.gfb, h.frm.set _ _ _, h.ord.set _ _ _, fun j u hj hu => cell_heap (Below.heap_setCell _ _ _ _ hne) (h.row j u hj hu), fun j u hu => ?_⟩
  obtain ⟨gu, n', cap, q1, q2, q3, q4, q5⟩ := h.shp j u hu
  exact ⟨gu, n', cap, q1, q2, q3, q4, q5.set _ _ _⟩
theorem EK.setN {B H : Nat} {w wr : World} {gf nf g : Nat} {us : List Value} {k : Nat} (h : EK B H w wr gf nf g us k) (v : Value) : EK B H w (wr.setCell ⟨g, k, none⟩ v) gf nf g us (k + 1) := by
  refine ⟨h.btw.trans (Btw.of_only (Only.setCellN g k v wr) h.gb), h.gb, h.gfb, h.frm.set _ _ _, h.ord.set _ _ _, fun j u hj hu => ?_, fun j u hu => ?_⟩
  · obtain ⟨cur, q1, _⟩ := h.ord
    have q2 := h.row j u (by omega) hu
    rw [cell_of_row _ _ _ _ _ _ q1] at q2
    rw [cell_of_row _ _ _ _ _ _ (heap_setCell_same _ _ _ _ _ _ q1)]
    simp only [Array.getElem?_setIfInBounds]
    rw [if_neg (by omega)]
    exact q2
  · obtain ⟨gu, n', cap, q1, q2, q3, q4, q5⟩ := h.shp j u hu
    exact ⟨gu, n', cap, q1, q2, q3, q4, q5.set _ _ _⟩

set_option maxRecDepth 20000 in
set_option maxHeartbeats 8000000 in
theorem execKept_any (x : Exe) (h1 : x.from'.length ≤ 4000000) (h2 : x.order.length ≤ 4000000) (h3 : ∀ l ∈ x.order, l.length ≤ 4000000) (B H : Nat) (vf vo uf uo : Value) (us : List Value) (w : World) (hH : H ≤ w.heap.size) (h : ExeW B H w uf uo x us) (hx : ExeAt w vf vo x) :
    Calls Tryz.prog 59 #[.agg #[uf, uo], .agg #[vf, vo]] w fun e w' => e = .returned (.bool true) ∧ Btw B H w w' := by
  obtain ⟨aof, capf, hff⟩ := hx.f.form
  obtain ⟨aoo, bo, offo, capo, hso⟩ := hx.o
  have hfo := hso.hv
  subst hff hfo
  have hao := hso.ha
  obtain ⟨g, cap, gz, hu1, hu2, hu3, hu4, hu5, hu6⟩ := h.o
  obtain ⟨gf, capf2, hf1, hf2⟩ := id h.f
  subst hu1 hf1
  have hnc : x.order.length + 1 ≤ cap ∧ cap ≤ 9223372036854775807 := by
    rcases hu2.2 with ⟨q, _⟩ | ⟨_, _, _, q, _, _, q1, q2, _⟩
    · cases q
    · cases q; exact ⟨q1, q2⟩
  have hgB := (hu2.lt g rfl).1
  have hgfB := (hf2.lt gf rfl).1
  have hgfH := h.fh gf rfl
  have hul := h.len
  have HS1 : Hid (∀ w', Below w.heap.size w w' → Calls Tryz.prog 117 #[.slice (some ⟨gf, 0, none⟩) x.from'.length capf2, .slice aof x.from'.length capf] w' fun e w'' => e = .returned (.bool true) ∧ Below w'.heap.size w' w'') := fun w' hb => still_any B x.from' h1 _ _ w' (h.f.other fun b hb' => hb.block b (h.f.lt hb').2) (hx.f.keep hb)
  have HRW : Hid (∀ k l, x.order[k]? = some l → ∃ gu capu ao1 cap1, us[k]? = some (.slice (some ⟨gu, 0, none⟩) l.length capu) ∧ w.cell? ⟨g, k, none⟩ = some (.slice (some ⟨gu, 0, none⟩) l.length capu) ∧ w.cell? ⟨bo, offo + k, none⟩ = some (.slice ao1 l.length cap1) ∧ ∀ w', Below w.heap.size w w' → Calls Tryz.prog 117 #[.slice (some ⟨gu, 0, none⟩) l.length capu, .slice ao1 l.length cap1] w' fun e w'' => e = .returned (.bool true) ∧ Below w'.heap.size w' w'') := fun k l hl => by
    have hkl := (List.getElem?_eq_some_iff.1 hl).1
    obtain ⟨u, q1, q2, _⟩ := h.rows k l hl
    obtain ⟨v, r1, r2⟩ := hso.hc k l hl
    obtain ⟨ao1, cap1, e⟩ := r2.form
    subst e
    rw [Nat.mul_one] at r1
    obtain ⟨gu, capu, e, q3⟩ := id q2
    subst e
    refine ⟨gu, capu, ao1, cap1, q1, ?_, r1, fun w' hb => still_any B l (h3 l (List.mem_of_getElem? hl)) _ _ w' (q2.other fun b hb' => hb.block b (q2.lt hb').2) (r2.keep hb)⟩
    rw [hu2.cellAt k (by omega), List.getElem?_append_left (by omega)]
    exact q1
  have cz : w.cell? ⟨g, x.order.length, none⟩ = some (.slice (some ⟨gz, 0, none⟩) 1 1) := by
    rw [hu2.cellAt _ (by omega), List.getElem?_append_right (by omega), show x.order.length - us.length = 0 by omega]
    rfl
  have cz0 : w.cell? ⟨gz, 0, none⟩ = some (.int .i64 (-1000)) := by rw [cell_of_row _ _ _ _ _ _ hu3]; rfl
  have HEK : Hid (∀ w', Below w.heap.size w w' → EK B H w w' gf x.from'.length g us 0) := fun w' hb => by
    refine ⟨Btw.of_below hb, ⟨hgB, hu6⟩, ⟨hgfB, hgfH⟩, ?_, ?_, fun j u _ hu => ?_, fun j u hu => ?_⟩
    · obtain ⟨cur, q1, q2⟩ := (Shp.own hf2).keep hb
      exact ⟨cur, q1, by omega⟩
    · obtain ⟨cur, q1, q2⟩ := (Shp.own hu2).keep hb
      exact ⟨cur, q1, by omega⟩
    · have hj := (List.getElem?_eq_some_iff.1 hu).1
      refine keep_cell hb ?_
      rw [hu2.cellAt j (by omega), List.getElem?_append_left hj]
      exact hu
    · have hj := (List.getElem?_eq_some_iff.1 hu).1
      obtain ⟨l, hl⟩ := get_of_lt (l := x.order) (k := j) (by omega)
      obtain ⟨u', q1, q2, q3⟩ := h.rows j l hl
      rw [hu] at q1
      cases q1
      obtain ⟨gu, capu, e, q4⟩ := id q2
      subst e
      obtain ⟨cur, r1, r2⟩ := (Shp.own q4).keep hb
      exact ⟨gu, l.length, capu, rfl, (q4.lt gu rfl).1, q3 gu rfl, h3 l (List.mem_of_getElem? hl), cur, r1, by omega⟩
  clear h hx hso hu2 hu3 hf2 h3
  go_enter Tryz.func59, Tryz.ntmps59
  go_wp2_with fail
  have hba := below_two w (.cells #[.slice (some ⟨gf, 0, none⟩) x.from'.length capf2, .slice (some ⟨g, 0, none⟩) x.order.length cap] 29) (.cells #[.slice aof x.from'.length capf, .slice aoo x.order.length capo] 29)
  have HBX : Hid (∀ w', Below (w.heap.size + 1 + 1) ((w.alloc (.cells #[.slice (some ⟨gf, 0, none⟩) x.from'.length capf2, .slice (some ⟨g, 0, none⟩) x.order.length cap] 29)).alloc (.cells #[.slice aof x.from'.length capf, .slice aoo x.order.length capo] 29)) w' → w'.cell? ⟨w.heap.size, 0, none⟩ = some (.slice (some ⟨gf, 0, none⟩) x.from'.length capf2) ∧ w'.cell? ⟨w.heap.size, 1, none⟩ = some (.slice (some ⟨g, 0, none⟩) x.order.length cap) ∧ w'.cell? ⟨w.heap.size + 1, 1, none⟩ = some (.slice aoo x.order.length capo)) := fun w' hb => by
    have h1 := hb.cell (p := ⟨w.heap.size, 0, none⟩) (by simp; omega)
    have h2 := hb.cell (p := ⟨w.heap.size, 1, none⟩) (by simp; omega)
    have h3 := hb.cell (p := ⟨w.heap.size + 1, 1, none⟩) (by simp)
    exact ⟨h1.trans (by simp), h2.trans (by simp), h3.trans (by simp)⟩
  refine (HS1.out _ hba).mono ?_
  rintro e w2 ⟨rfl, hb2⟩
  simp only [World.size_alloc] at hb2
  obtain ⟨x0, x1, x2⟩ := HBX.out w2 hb2
  have hbw2 := hba.trans (hb2.mono (by omega))
  have hS2 : w.heap.size + 1 + 1 ≤ w2.heap.size := by have := hb2.size; simpa using this
  clear HS1 hb2 hba HBX
  go_wp2_with fail
  go_loopw [5, 7] (fun o i wr => ∃ k : Nat, k ≤ x.order.length ∧ o = .bool true ∧ i = .int .i64 k ∧ Below w2.heap.size w2 wr) (fun _ i _ => x.order.length - (intOf i).toNat)
  case atStart => exact ⟨0, Nat.zero_le _, rfl, rfl, Below.refl _ _⟩
  case round =>
    obtain ⟨k, hk, rfl, rfl, hb⟩ := hrel
    have y0 := keep_cell hb x0
    have y1 := keep_cell hb x1
    have y2 := keep_cell hb x2
    have hbw := hbw2.trans (hb.mono (by omega))
    by_cases hlt : k < x.order.length
    · obtain ⟨l, hl⟩ := get_of_lt hlt
      obtain rfl := hao (ne_nil hlt)
      obtain ⟨gu, capu, ao1, cap1, _, q1, q2, q3⟩ := HRW.out k l hl
      have HST : Hid (∀ w', Below wr.heap.size wr w' → Calls Tryz.prog 117 #[.slice (some ⟨gu, 0, none⟩) l.length capu, .slice ao1 l.length cap1] w' fun e w'' => e = .returned (.bool true) ∧ Below w'.heap.size w' w'') := fun w' hb' => q3 w' (below_more hbw hb')
      have g0 := grown_cell y2
      have g1 := grown_cell (keep_cell hbw q1)
      have g2 := grown_cell (keep_cell hbw q2)
      have hnw := grw_some wr
      have hkI : (k : Int) < (x.order.length : Int) := by omega
      have hkJ : (k : Int) < (x.order.length : Int) + 1 := by omega
      clear q1 q2 q3 hl
      go_wp2_with fail
      refine wp_region_grown (by kernel_rfl) (by kernel_rfl) ?_
      repeat (go_big_quiet_step ((go_at_call 117; exact grown_call (HST.out _ (Grw.low _)))))
      refine wpQuiet_nil ?_
      intro w7 hw7
      obtain ⟨⟨w7', hb7⟩, rfl⟩ := hw7
      clear g0 g1 g2
      go_wp2_with fail
      go_roundw
      case measure => simp [intOf]; omega
      case rel => exact ⟨k + 1, by omega, rfl, by go_num, below_more hb hb7⟩
    · have hkI : (x.order.length : Int) ≤ (k : Int) := by omega
      have z0 := keep_cell hbw cz
      have z1 := keep_cell hbw cz0
      obtain ⟨w1, hw1⟩ : ∃ x, x = wr := ⟨_, rfl⟩
      subst hw1
      have hE1 := HEK.out w1 hbw
      have HE0 : Hid (EK B H w1 w1 gf x.from'.length g us 0) := ⟨Btw.refl _ _ _, hE1.gb, hE1.gfb, hE1.frm, hE1.ord, hE1.row, hE1.shp⟩
      have hS1 : w.heap.size < w1.heap.size := by have := hb.size; omega
      have HYS : Hid (∀ wr, Btw B H w1 wr → wr.cell? ⟨w.heap.size, 0, none⟩ = some (.slice (some ⟨gf, 0, none⟩) x.from'.length capf2) ∧ wr.cell? ⟨w.heap.size, 1, none⟩ = some (.slice (some ⟨g, 0, none⟩) x.order.length cap)) := fun wr hbt => ⟨cell_heap (hbt.block _ hS1 (by omega)) y0, cell_heap (hbt.block _ hS1 (by omega)) y1⟩
      have HBT : Hid (∀ wr, Btw B H w1 wr → Btw B H w wr) := fun wr hbt => (Btw.of_below hbw).trans hbt
      clear HRW hE1 HEK
      go_wp2_with fail
      clear y0 y1 y2 z0 z1
      go_loopw [9] (fun i wr => ∃ k : Nat, k ≤ x.from'.length ∧ i = .int .i64 k ∧ Hid (EK B H w1 wr gf x.from'.length g us 0)) (fun i _ => x.from'.length - (intOf i).toNat)
      case atStart => exact ⟨0, Nat.zero_le _, rfl, HE0.out⟩
      case round =>
        clear HE0
        obtain ⟨k2, hk2, rfl, hE⟩ := hrel
        obtain ⟨y0, y1⟩ := HYS.out wr hE.out.btw
        by_cases hlt2 : k2 < x.from'.length
        · obtain ⟨⟨z, c0⟩, f0⟩ := hE.out.frm.cell hlt2
          have HE2 := hid (hE.out.setI hE.out.frm hE.out.gfb k2 (.int .i64 (-1000)))
          have hkI2 : (k2 : Int) < (x.from'.length : Int) := by omega
          clear hE
          go_wp2_with fail
          go_roundw
          case measure => simp [intOf]; omega
          case rel => exact ⟨k2 + 1, by omega, by go_num, HE2.out⟩
        · have hkI2 : (x.from'.length : Int) ≤ (k2 : Int) := by omega
          have HE0 := hE
          clear hE
          go_wp2_with fail
          clear y0 y1
          go_loopw [10, 11] (fun i _ wr => ∃ k : Nat, k ≤ x.order.length ∧ i = .int .i64 k ∧ Hid (EK B H w1 wr gf x.from'.length g us k)) (fun i _ _ => x.order.length - (intOf i).toNat)
          case atStart => exact ⟨0, Nat.zero_le _, rfl, HE0.out⟩
          case round =>
            clear HE0
            obtain ⟨k3, hk3, rfl, hE⟩ := hrel
            obtain ⟨y0, y1⟩ := HYS.out wr hE.out.btw
            by_cases hlt3 : k3 < x.order.length
            · obtain ⟨u, hu⟩ := get_of_lt (l := us) (k := k3) (by omega)
              obtain ⟨gu, nu, capu, rfl, hq1, hq2, hq3, _⟩ := hE.out.shp k3 u hu
              have HUU : Hid (us[k3]? = some (.slice (some ⟨gu, 0, none⟩) nu capu)) := hu
              have hkI3 : (k3 : Int) < (x.order.length : Int) := by omega
              have HE0 := hE
              have hr0 := hE.out.row k3 _ (Nat.le_refl _) hu
              clear hE hu
              go_wp2_with fail
              clear y0 y1 hr0
              go_loopw [11] (fun i wr => ∃ k : Nat, k ≤ nu ∧ i = .int .i64 k ∧ Hid (EK B H w1 wr gf x.from'.length g us k3)) (fun i _ => nu - (intOf i).toNat)
              case atStart => exact ⟨0, Nat.zero_le _, rfl, HE0.out⟩
              case round =>
                clear HE0
                obtain ⟨k4, hk4, rfl, hE⟩ := hrel
                obtain ⟨y0, y1⟩ := HYS.out wr hE.out.btw
                have hr0 := hE.out.row k3 _ (Nat.le_refl _) HUU.out
                by_cases hlt4 : k4 < nu
                · obtain ⟨gu', nu', capu', e, _, _, _, hsp⟩ := hE.out.shp k3 _ HUU.out
                  simp only [Value.slice.injEq, Option.some.injEq, Addr.mk.injEq, and_true] at e
                  obtain ⟨rfl, rfl, rfl⟩ := e
                  obtain ⟨⟨z, c0⟩, f0⟩ := hsp.cell hlt4
                  have HE2 := hid (hE.out.setI hsp ⟨hq1, hq2⟩ k4 (.int .i64 (-1000)))
                  have hkI4 : (k4 : Int) < (nu : Int) := by omega
                  clear hE hsp
                  go_wp2_with fail
                  go_roundw
                  case measure => simp [intOf]; omega
                  case rel => exact ⟨k4 + 1, by omega, by go_num, HE2.out⟩
                · have hkI4 : (nu : Int) ≤ (k4 : Int) := by omega
                  obtain ⟨⟨z, c0⟩, f0⟩ := hE.out.ord.cell (j := k3) (by omega)
                  have HE2 := hid (hE.out.setN (.slice none 0 0))
                  clear hE c0
                  go_wp2_with fail
                  go_roundw
                  case measure => simp [intOf]; omega
                  case rel => exact ⟨k3 + 1, by omega, by go_num, HE2.out⟩
            · have hkI3 : (x.order.length : Int) ≤ (k3 : Int) := by omega
              have HE2 := hid (HBT.out wr hE.out.btw)
              clear hE
              go_wp2_with fail
              go_ret
              exact ⟨rfl, HE2.out⟩

end Go.Proofs.YtomijmikkbhgmaaGreat

namespace Go.Proofs.YtomijmikkbhgmaaGreat
open Go.RowKit

/-- The rows of the threads, each of its own. -/
structure CpRows (base : Nat) (w : World) (V : Value) (k : Nat) (T : List (List Ins)) (vs : List Value) : Prop where
  row : ∀ (j : Nat) (l : List Ins), j < k → T[j]? = some l → ∃ u, vs[j]? = some u ∧ w.ownsRow base 48 5 u l.length (l.flatMap insV) ∧ ∀ b, u.ownBlock = some b → V.ownBlock ≠ some b
  apart : ∀ (i j : Nat) (u v : Value) (b : Nat), i < j → vs[i]? = some u → vs[j]? = some v → u.ownBlock = some b → v.ownBlock ≠ some b

theorem CpRows.nil (base : Nat) (w : World) (V : Value) (T : List (List Ins)) : CpRows base w V 0 T [] := ⟨fun j l hj => by omega, fun i j u v b _ hu => by simp at hu⟩
theorem CpRows.other {base : Nat} {w w' : World} {V : Value} {k : Nat} {T : List (List Ins)} {vs : List Value} (h : CpRows base w V k T vs) (hs : ∀ b : Nat, base ≤ b → b < w.heap.size → V.ownBlock ≠ some b → w'.heap[b]? = w.heap[b]?) : CpRows base w' V k T vs := by
  refine ⟨fun j l hj hl => ?_, h.apart⟩
  obtain ⟨u, h1, h2, h3⟩ := h.row j l hj hl
  exact ⟨u, h1, own_other h2 (fun b hb => hs b (h2.lt b hb).1 (h2.lt b hb).2 (h3 b hb)), h3⟩
theorem CpRows.step {base : Nat} {w w1 w2 : World} {V V' : Value} {k : Nat} {T : List (List Ins)} {vs : List Value} (h : CpRows base w1 V k T vs) (hlen : vs.length = k) {l : List Ins} (hx : T[k]? = some l) {u : Value} {o : Obj} (_hw : w.heap.size ≤ w1.heap.size) (hold : ∀ (j : Nat) (z : Value) (b : Nat), vs[j]? = some z → z.ownBlock = some b → b < w.heap.size)
    (hu : w1.ownsRow w.heap.size 48 5 u l.length (l.flatMap insV)) (hub : ∀ b, u.ownBlock = some b → V.ownBlock ≠ some b) (hbase : base ≤ w.heap.size) (hg : (w1.alloc o).grownBy w2 V.ownBlock) (hap : ∀ g, V'.ownBlock = some g → V.ownBlock = some g ∨ w1.heap.size + 1 ≤ g) (B : Nat) (hB : B < base) (x : Value) :
    CpRows base (w2.setCell ⟨B, 0, none⟩ x) V' (k + 1) T (vs ++ [u]) := by
  have key : ∀ b, base ≤ b → b < w1.heap.size → V.ownBlock ≠ some b → (w2.setCell ⟨B, 0, none⟩ x).heap[b]? = w1.heap[b]? := by
    intro b hbb hb hne
    rw [Below.heap_setCell _ _ _ _ (by show b ≠ B; omega), hg.block b (by simp; omega) (fun e => hne e.symm), Below.heap_alloc _ _ _ hb]
  have hV' : ∀ b, b < w1.heap.size → V.ownBlock ≠ some b → V'.ownBlock ≠ some b := fun b hb hne e => by
    rcases hap b e with e' | e'
    · exact hne e'
    · omega
  refine ⟨fun j m hj hm => ?_, fun i j a z b hij ha hz hb => ?_⟩
  · by_cases hjk : j < k
    · obtain ⟨z, h1, h2, h3⟩ := h.row j m hjk hm
      refine ⟨z, by rw [List.getElem?_append_left (by rw [hlen]; exact hjk)]; exact h1, own_other h2 (fun b hb => key b (h2.lt b hb).1 (h2.lt b hb).2 (h3 b hb)), fun b hb => hV' b (h2.lt b hb).2 (h3 b hb)⟩
    · have : j = k := by omega
      subst this
      rw [hx] at hm
      cases hm
      refine ⟨u, by rw [List.getElem?_append_right (by rw [hlen]; omega), hlen]; simp, own_other (own_base hu hbase) (fun b hb => key b (by have := (hu.lt b hb).1; omega) (hu.lt b hb).2 (hub b hb)), fun b hb => hV' b (hu.lt b hb).2 (hub b hb)⟩
  · have hj2 : j ≤ k := by
      have := (List.getElem?_eq_some_iff.1 hz).1
      rw [List.length_append, hlen] at this
      simp at this
      omega
    rw [List.getElem?_append_left (by rw [hlen]; omega)] at ha
    by_cases hjk : j < k
    · rw [List.getElem?_append_left (by rw [hlen]; exact hjk)] at hz
      exact h.apart i j a z b hij ha hz hb
    · have : j = k := by omega
      subst this
      rw [List.getElem?_append_right (by rw [hlen]; omega), hlen] at hz
      simp at hz
      subst hz
      intro e
      have h1 := (hu.lt b e).1
      have h2 := hold i a b ha hb
      omega

/-- What Copy hands back: all of it new, no two lists in one block. -/
structure CpAt (base : Nat) (w : World) (V vc : Value) (T : List (List Ins)) (c : List Atm) (vs : List Value) : Prop where
  len : vs.length = T.length
  own : w.ownsRow base 46 1 V T.length vs
  rows : CpRows base w V T.length T vs
  atm : AtmAt w vc c
  ab : ∀ b, vc.ownBlock = some b → base ≤ b ∧ b < w.heap.size ∧ V.ownBlock ≠ some b ∧ ∀ (j : Nat) (u : Value), vs[j]? = some u → u.ownBlock ≠ some b
  aown : w.ownsRow base 104 3 vc c.length (c.flatMap atmV)

set_option maxHeartbeats 2000000 in
theorem copy_new (T : List (List Ins)) (fa : Bool) (c : List Atm) (v vt vc : Value) (w : World) (h : TestAt w v T fa c vt vc) :
    Calls Tryz.prog 17 #[v] w fun e w' => ∃ vt' vc', e = .returned (.agg #[vt', .bool fa, vc']) ∧ (TestAt w' (.agg #[vt', .bool fa, vc']) T fa c vt' vc' ∧ ∃ vs, CpAt w.heap.size w' vt' vc' T c vs) ∧ Below w.heap.size w w' := by
  obtain ⟨hv, ht, ⟨hc0, ao', b', off', cap', hcv, hca, hcn, hcc⟩⟩ := h
  obtain ⟨ht0, ao, b, off, cap, htv, hta, _, htc⟩ := ht.opened
  subst hv htv hcv
  obtain ⟨i5, hi5, hy0, hy1, hy2⟩ := info_parts Tryz.infoInstr
  have HI5 : Hid (Tryz.prog.info? 48 = some i5 ∧ i5.zero = some (.agg #[.int .i64 0, .int .i64 0, .int .i64 0, .int .i64 0, .int .i64 0]) ∧ i5.size = 5 ∧ i5.bytes = 40) := ⟨hi5, hy0, hy1, hy2⟩
  obtain ⟨i1, hi1, hx0, hx1, hx2⟩ := info_parts Tryz.infoInstrs
  have HI1 : Hid (Tryz.prog.info? 46 = some i1 ∧ i1.zero = some (.slice none 0 0) ∧ i1.size = 1 ∧ i1.bytes = 24) := ⟨hi1, hx0, hx1, hx2⟩
  obtain ⟨i3, hi3, hw0, hw1, hw2⟩ := info_parts Tryz.infoAtom
  have HI3 : Hid (Tryz.prog.info? 104 = some i3 ∧ i3.zero = some (.agg #[.int .i64 0, .int .i64 0, .int .i64 0]) ∧ i3.size = 3 ∧ i3.bytes = 24) := ⟨hi3, hw0, hw1, hw2⟩
  clear hi5 hy0 hy1 hy2 hi1 hx0 hx1 hx2 hi3 hw0 hw1 hw2
  go_enter Tryz.func17, Tryz.ntmps17
  go_wp2_with fail
  have HS0 : Hid (CopySt w _ _ _ fa (w.heap.size + 1 + 1) (.slice none 0 0) 0 T []) := copySt_init w (.slice ao T.length cap) (.slice ao' c.length cap') fa T 25
  generalize hB : w.heap.size + 1 + 1 = B
  have HB2 : Hid (B = w.heap.size + 2) := by unfold Hid; omega
  have hB3 : w.heap.size + 1 < B := by omega
  have hB4 : w.heap.size < B := by omega
  clear hB
  go_loopw [4] (fun i wr => ∃ (k : Nat) (aoV : Option Addr) (capV : Nat) (vs : List Value), k ≤ T.length ∧ i = .int .i64 k ∧ CopySt w wr (.slice ao T.length cap) (.slice ao' c.length cap') fa B (.slice aoV k capV) k T vs ∧ Hid (CpRows (B + 1) wr (.slice aoV k capV) k T vs)) (fun i _ => T.length - (intOf i).toNat)
  case atStart => rw [HB2.out]; exact ⟨0, none, 0, [], Nat.zero_le _, rfl, HS0.out, CpRows.nil _ _ _ _⟩
  case round =>
    obtain ⟨k, aoV, capV, vs, hk, rfl, S, HP⟩ := hrel
    have HS : Hid (CopySt w wr (.slice ao T.length cap) (.slice ao' c.length cap') fa B (.slice aoV k capV) k T vs) := S
    obtain ⟨-, -, e0, e2, r0, r1, r2, q0, q1, q2, f0, f1, f2, z0, z1, z2, lb, -, -, -⟩ := S
    by_cases hlt : k < T.length
    · obtain ⟨l, hx⟩ := get_of_lt hlt
      obtain ⟨hbl, ao2, cap2, c0, hil⟩ := htc k l hx
      obtain rfl := hta (ne_nil hlt)
      have c1 := keep_cell HS.out.below c0
      have HIL : Hid (InsAt wr (.slice ao2 l.length cap2) l) := hil.keep HS.out.below
      obtain ⟨hl40, ao3, b3, off3, cap3, hs3⟩ := HIL.out
      have hv3 := hs3.hv
      simp only [Value.slice.injEq] at hv3
      obtain ⟨rfl, -, rfl⟩ := hv3
      have HS3 : Hid (SlAt wr 5 InsC (.slice ao2 l.length cap2) l ao2 b3 off3 cap2) := hs3
      have HX : Hid (T[k]? = some l) := hx
      have HTC : Hid (∀ k l, T[k]? = some l → b < w.heap.size ∧ ∃ ao' cap', w.cell? ⟨b, off + k, none⟩ = some (.slice ao' l.length cap') ∧ InsAt w (.slice ao' l.length cap') l) := htc
      have HCC : Hid (∀ k x, c[k]? = some x → AtmC w b' (off' + k * 3) x) := hcc
      clear hx hs3 hil c0 htc hcc HS0 ht
      go_wp2_with (at_builtin; refine append_new _ rfl (.tmp 16) (.tmp 21) 46 rfl wr.heap.size 48 i5 (.agg #[.int .i64 0, .int .i64 0, .int .i64 0, .int .i64 0, .int .i64 0]) 5 40 Tryz.underlying46 HI5.out.1 HI5.out.2.1 HI5.out.2.2.1 HI5.out.2.2.2 rfl (by decide) (.slice none 0 0) 0 [] rfl (World.ownsRow_nil _ _ _ _) ao2 l.length cap2 (l.flatMap insV) rfl (fun h => ⟨by rw [(HS3.out.hn h).1]; rfl, (HS3.out.hn h).2⟩) (flat_len insV 5 (fun _ => rfl) l) (ins_cells HS3.out) (ins_one l) (by unfold maxLen; omega) (by omega) (Nat.le_refl _) ?_)
      intro v1 w1 hown1 hgrow1 _
      have hap1 : ∀ b, v1.ownBlock = some b → wr.heap.size ≤ b ∧ b < w1.heap.size := fun b hb => hown1.lt b hb
      obtain ⟨aoN, capN, hvN, _⟩ := own_form hown1
      have hgN : wr.grownBy w1 none := hgrow1
      have S1 := HS.out.grown hgN
      have hbn : Below wr.heap.size wr w1 := ⟨hgN.os, hgN.tape, hgN.output, hgN.size, fun i hi => hgN.block i hi (by simp)⟩
      have HP1 : Hid (CpRows (B + 1) w1 (.slice aoV k capV) k T vs ∧ w1.ownsRow wr.heap.size 48 5 v1 l.length (l.flatMap insV) ∧ wr.heap.size ≤ w1.heap.size ∧ B + 1 ≤ wr.heap.size ∧ ∀ (j : Nat) (z : Value) (b : Nat), vs[j]? = some z → z.ownBlock = some b → b < wr.heap.size) := by
        refine ⟨HP.out.other (fun b _ hb _ => hbn.block b hb), by simpa using hown1, hbn.size, by have := HS.out.lb; omega, fun j z b hz hzb => ?_⟩
        have hj : j < k := by have := (List.getElem?_eq_some_iff.1 hz).1; rw [HS.out.len] at this; exact this
        obtain ⟨m, hm⟩ := get_of_lt (l := T) (k := j) (by omega)
        obtain ⟨z', h1, _, h3⟩ := HS.out.rows j m hj hm
        rw [hz] at h1
        cases h1
        exact (h3 b hzb).2.1
      have hub : ∀ b, v1.ownBlock = some b → B < b ∧ b < w1.heap.size ∧ (Value.slice aoV k capV).ownBlock ≠ some b := fun b hb => ⟨by have := (hap1 b hb).1; omega, (hap1 b hb).2, fun e => by have := (HS.out.own.lt b e).2; have := (hap1 b hb).1; omega⟩
      have hIn := owns_ins hl40 hown1
      subst hvN
      have HS1 : Hid (CopySt w w1 (.slice (some ⟨b, off, none⟩) T.length cap) (.slice ao' c.length cap') fa B (.slice aoV k capV) k T vs) := S1
      have HU : Hid (InsAt w1 (.slice aoN l.length capN) l ∧ ∀ b, (Value.slice aoN l.length capN).ownBlock = some b → B < b ∧ b < w1.heap.size ∧ (Value.slice aoV k capV).ownBlock ≠ some b) := ⟨hIn, hub⟩
      clear hown1 hgrow1 hap1 hgN hub hIn e0 e2 r0 r1 r2 q0 q1 q2 f0 f1 f2 z0 z1 z2 lb c1 HS HIL HS3
      obtain ⟨-, -, e0, e2, r0, r1, r2, q0, q1, q2, f0, f1, f2, z0, z1, z2, lb, -, -, -⟩ := S1
      go_wp2_with (at_builtin; refine append_new _ rfl (.tmp 24) (.tmp 26) 22 rfl (B + 1) 46 i1 (.slice none 0 0) 1 24 Tryz.underlying22 HI1.out.1 HI1.out.2.1 HI1.out.2.2.1 HI1.out.2.2.2 rfl (by decide) (.slice aoV k capV) k vs rfl (HS1.out.own.alloc _) (some ⟨w1.heap.size, 0, none⟩) 1 1 [.slice aoN l.length capN] rfl (fun h => by cases h) rfl (fun ad had => by cases had; exact new_one rfl) (by simp [Value.oneCell']) (by unfold maxLen; omega) (by omega) (by simp; omega) ?_)
      intro V2 w2 hown2 hgrow2 hap2
      have hap3 : ∀ g, V2.ownBlock = some g → (Value.slice aoV k capV).ownBlock = some g ∨ w1.heap.size + 1 ≤ g := by simpa using hap2
      obtain ⟨aoW, capW, hvW, _⟩ := own_form hown2
      subst hvW
      have HS2 : Hid (CopySt w (w2.setCell ⟨B, 0, none⟩ (.slice aoW (k + 1) capW)) (.slice (some ⟨b, off, none⟩) T.length cap) (.slice ao' c.length cap') fa B (.slice aoW (k + 1) capW) (k + 1) T (vs ++ [.slice aoN l.length capN])) :=
        HS1.out.step HX.out HU.out.1 HU.out.2 hown2 hgrow2 hap3
      have HP2 : Hid (CpRows (B + 1) (w2.setCell ⟨B, 0, none⟩ (.slice aoW (k + 1) capW)) (.slice aoW (k + 1) capW) (k + 1) T (vs ++ [.slice aoN l.length capN])) :=
        HP1.out.1.step HS1.out.len HX.out HP1.out.2.2.1 HP1.out.2.2.2.2 HP1.out.2.1 (fun b hb => (HU.out.2 b hb).2.2) HP1.out.2.2.2.1 hgrow2 hap3 B (by omega) _
      have hBk : w2.heap[B]? = w1.heap[B]? := by
        rw [hgrow2.block B (by simp; omega) (fun e => by have := (HS1.out.own.lt B e.symm).1; omega), Below.heap_alloc _ _ _ lb]
      have y0 := cell_heap hBk f0
      have y3 : w2.frozen? ⟨B, 0, none⟩ = false := (World.frozen?_of_block (w := w1) hBk).trans z0
      clear hown2 hgrow2 hap2 hap3 hBk e0 e2 r0 r1 r2 q0 q1 q2 f0 f1 f2 z0 z1 z2 lb HS1 HU HP1 HP
      go_wp2_with fail
      go_roundw
      case measure => simp [intOf]; omega
      case rel => exact ⟨k + 1, aoW, capW, _, by omega, by go_num, HS2.out, HP2.out⟩
    · have hkT : k = T.length := by omega
      subst hkT
      have HCS : Hid (SlAt wr 3 AtmC (.slice ao' c.length cap') c ao' b' off' cap') := (SlAt.keep atmC_keeps ⟨rfl, hca, hcn, hcc⟩ HS.out.below)
      clear htc hta hca hcn hcc HS0 ht
      go_wp2_with (at_builtin; refine append_new _ rfl (.tmp 30) (.tmp 32) 23 rfl wr.heap.size 104 i3 (.agg #[.int .i64 0, .int .i64 0, .int .i64 0]) 3 24 Tryz.underlying23 HI3.out.1 HI3.out.2.1 HI3.out.2.2.1 HI3.out.2.2.2 rfl (by decide) (.slice none 0 0) 0 [] rfl (World.ownsRow_nil _ _ _ _) ao' c.length cap' (c.flatMap atmV) rfl (fun h => ⟨by rw [(HCS.out.hn h).1]; rfl, (HCS.out.hn h).2⟩) (flat_len atmV 3 (fun _ => rfl) c) (atm_cells HCS.out) (atm_one c) (by unfold maxLen; omega) (by omega) (Nat.le_refl _) ?_)
      intro v1 w1 hown1 hgrow1 _
      obtain ⟨aoN, capN, hvN, _⟩ := own_form hown1
      have hlt1 := fun b hb => hown1.lt b hb
      have S1 := HS.out.grown hgrow1
      have hgN : wr.grownBy w1 none := hgrow1
      have hbn : Below wr.heap.size wr w1 := ⟨hgN.os, hgN.tape, hgN.output, hgN.size, fun i hi => hgN.block i hi (by simp)⟩
      have HB1 : Hid (CpRows (B + 1) w1 (.slice aoV T.length capV) T.length T vs) := HP.out.other (fun b _ hb _ => hbn.block b hb)
      subst hvN
      have hAt := owns_atm hc0 hown1
      have HAO : Hid (w1.ownsRow wr.heap.size 104 3 (.slice aoN c.length capN) c.length (c.flatMap atmV)) := by unfold Hid; simpa using hown1
      have HS1 : Hid (CopySt w w1 (.slice ao T.length cap) (.slice ao' c.length cap') fa B (.slice aoV T.length capV) T.length T vs) := S1
      have HU : Hid (AtmAt w1 (.slice aoN c.length capN) c ∧ ∀ b, (Value.slice aoN c.length capN).ownBlock = some b → wr.heap.size ≤ b ∧ b < w1.heap.size) := ⟨hAt, hlt1⟩
      clear hown1 hgrow1 hlt1 hAt e0 e2 r0 r1 r2 q0 q1 q2 f0 f1 f2 z0 z1 z2 HCS
      have lbr := lb
      clear lb
      obtain ⟨-, -, e0, e2, r0, r1, r2, q0, q1, q2, f0, f1, f2, z0, z1, z2, lb, -, -, -⟩ := S1
      go_wp2_with fail
      have hs : ∀ x : Nat, x ≠ B → x ≠ w.heap.size + 1 → ((((w1.setCell ⟨B, 2, none⟩ (.slice aoN c.length capN)).setCell ⟨w.heap.size + 1, 0, none⟩ (.slice aoV T.length capV)).setCell ⟨w.heap.size + 1, 1, none⟩ (.bool fa)).setCell ⟨w.heap.size + 1, 2, none⟩ (.slice aoN c.length capN)).heap[x]? = w1.heap[x]? := by
        intro x h1 h2
        rw [Below.heap_setCell _ _ _ _ h2, Below.heap_setCell _ _ _ _ h2, Below.heap_setCell _ _ _ _ h2, Below.heap_setCell _ _ _ _ h1]
      refine bodyPost_ret (v := .agg #[.slice aoV T.length capV, .bool fa, .slice aoN c.length capN]) (by simp [results, Tryz.results17, go_sem, *]) rfl
        ⟨_, _, rfl, ⟨⟨rfl, HS1.out.done ht0 hs, HU.out.1.other (fun x hx => hs x (by have := (HU.out.2 x hx).1; omega) (by have := (HU.out.2 x hx).1; omega))⟩, vs, ?_⟩, ?_⟩
      · have hB2 := HB2.out
        have hrl := HS.out.lb
        have hso : ∀ b : Nat, B + 1 ≤ b → ((((w1.setCell ⟨B, 2, none⟩ (.slice aoN c.length capN)).setCell ⟨w.heap.size + 1, 0, none⟩ (.slice aoV T.length capV)).setCell ⟨w.heap.size + 1, 1, none⟩ (.bool fa)).setCell ⟨w.heap.size + 1, 2, none⟩ (.slice aoN c.length capN)).heap[b]? = w1.heap[b]? := fun b hb => hs b (by omega) (by omega)
        have hrow := HB1.out.other (w' := ((((w1.setCell ⟨B, 2, none⟩ (.slice aoN c.length capN)).setCell ⟨w.heap.size + 1, 0, none⟩ (.slice aoV T.length capV)).setCell ⟨w.heap.size + 1, 1, none⟩ (.bool fa)).setCell ⟨w.heap.size + 1, 2, none⟩ (.slice aoN c.length capN))) (fun b hb _ _ => hso b hb)
        have hrow2 : ∀ (j : Nat) (u : Value) (b : Nat), vs[j]? = some u → u.ownBlock = some b → b < wr.heap.size := fun j z b hz hzb => by
          have hj : j < T.length := by have := (List.getElem?_eq_some_iff.1 hz).1; rw [HS.out.len] at this; exact this
          obtain ⟨m, hm⟩ := get_of_lt (l := T) (k := j) hj
          obtain ⟨z', h1, _, h3⟩ := HS.out.rows j m hj hm
          rw [hz] at h1
          cases h1
          exact (h3 b hzb).2.1
        refine ⟨HS.out.len, own_base (own_other HS1.out.own (fun b hb => hso b (HS1.out.own.lt b hb).1)) (by omega), ⟨fun j l hj hl => ?_, hrow.apart⟩, HU.out.1.other (fun x hx => hs x (by have := (HU.out.2 x hx).1; omega) (by have := (HU.out.2 x hx).1; omega)), fun b hb => ⟨by have := (HU.out.2 b hb).1; omega, by have := (HU.out.2 b hb).2; simp [World.setCell]; omega, fun e => ?_, fun j u hu e => ?_⟩, own_base (own_other HAO.out fun x hx => hs x (by have := (HU.out.2 x hx).1; omega) (by have := (HU.out.2 x hx).1; omega)) (by omega)⟩
        · obtain ⟨u, h1, h2, h3⟩ := hrow.row j l hj hl
          exact ⟨u, h1, own_base h2 (by omega), h3⟩
        · have h1 := (HS.out.own.lt b e).2
          have h2 := (HU.out.2 b hb).1
          omega
        · have h1 := hrow2 j u b hu e
          have h2 := (HU.out.2 b hb).1
          omega
      exact (((HS1.out.below.setCell (by simp; omega) _).setCell (by simp) _).setCell (by simp) _).setCell (by simp) _

end Go.Proofs.YtomijmikkbhgmaaGreat

namespace Go.Proofs.YtomijmikkbhgmaaGreat
open Go.RowKit

def insM : List Value := [.int .i64 (-1000), .int .i64 0, .int .i64 0, .int .i64 0, .int .i64 0]
def atmM : List Value := [.int .i64 0, .int .i64 (-1000), .int .i64 0]

/-- A list in a block of its own, with a mark behind it. -/
def WidG (B : Nat) (w : World) (e : TypeId) (s : Nat) (v : Value) (n : Nat) (xs mk : List Value) : Prop := ∃ g cap, v = .slice (some ⟨g, 0, none⟩) n cap ∧ w.ownsRow B e s (.slice (some ⟨g, 0, none⟩) (n + 1) cap) (n + 1) (xs ++ mk)
theorem WidG.other {B : Nat} {w w' : World} {e : TypeId} {s : Nat} {v : Value} {n : Nat} {xs mk : List Value} (h : WidG B w e s v n xs mk) (hs : ∀ b, v.ownBlock = some b → w'.heap[b]? = w.heap[b]?) : WidG B w' e s v n xs mk := by
  obtain ⟨g, cap, rfl, h2⟩ := h
  exact ⟨g, cap, rfl, own_other h2 fun b hb => hs b hb⟩
theorem WidG.lt {B : Nat} {w : World} {e : TypeId} {s : Nat} {v : Value} {n : Nat} {xs mk : List Value} (h : WidG B w e s v n xs mk) {b : Nat} (hb : v.ownBlock = some b) : B ≤ b ∧ b < w.heap.size := by
  obtain ⟨g, cap, rfl, h2⟩ := h
  exact h2.lt b hb
theorem WidG.ty {B : Nat} {w : World} {e : TypeId} {s : Nat} {v : Value} {n : Nat} {xs mk : List Value} (h : WidG B w e s v n xs mk) {b : Nat} (hb : v.ownBlock = some b) : ∃ cur, w.heap[b]? = some (.cells cur e (0, 0)) := by
  obtain ⟨g, cap, rfl, h2⟩ := h
  exact own_ty h2 hb
theorem WidG.base {B B' : Nat} {w : World} {e : TypeId} {s : Nat} {v : Value} {n : Nat} {xs mk : List Value} (h : WidG B w e s v n xs mk) (hb : B' ≤ B) : WidG B' w e s v n xs mk := by
  obtain ⟨g, cap, rfl, h2⟩ := h
  exact ⟨g, cap, rfl, own_base h2 hb⟩

/-- The threads, each with a mark behind it, k of them so far. -/
structure RmS (B : Nat) (w : World) (V : Value) (T : List (List Ins)) (vs : List Value) (k : Nat) : Prop where
  own : w.ownsRow B 46 1 V T.length vs
  done : ∀ (j : Nat) (l : List Ins), j < k → T[j]? = some l → ∃ u, vs[j]? = some u ∧ WidG B w 48 5 u l.length (l.flatMap insV) insM
  todo : ∀ (j : Nat) (l : List Ins), k ≤ j → T[j]? = some l → ∃ u, vs[j]? = some u ∧ w.ownsRow B 48 5 u l.length (l.flatMap insV)
  apart : ∀ (i j : Nat) (u v : Value) (b : Nat), i ≠ j → vs[i]? = some u → vs[j]? = some v → u.ownBlock = some b → v.ownBlock ≠ some b

theorem RmS.of {B : Nat} {w : World} {V vc : Value} {T : List (List Ins)} {c : List Atm} {vs : List Value} (h : CpAt B w V vc T c vs) : RmS B w V T vs 0 :=
  ⟨h.own, fun j l hj => by omega, fun j l _ hl => by
    obtain ⟨u, q1, q2, _⟩ := h.rows.row j l (List.getElem?_eq_some_iff.1 hl).1 hl
    exact ⟨u, q1, q2⟩, fun i j u v b hij hu hv hb e => by
    rcases Nat.lt_or_gt_of_ne hij with q | q
    · exact h.rows.apart i j u v b q hu hv hb e
    · exact h.rows.apart j i v u b q hv hu e hb⟩
theorem RmS.other {B : Nat} {w w' : World} {V : Value} {T : List (List Ins)} {vs : List Value} {k : Nat} (h : RmS B w V T vs k) (hs : ∀ b, b < w.heap.size → (∀ cur, w.heap[b]? ≠ some (.cells cur 25 (0, 0))) → w'.heap[b]? = w.heap[b]?) : RmS B w' V T vs k := by
  refine ⟨own_other h.own fun b hb => ?_, fun j l hj hl => ?_, fun j l hj hl => ?_, h.apart⟩
  · obtain ⟨cur, q⟩ := own_ty h.own hb
    exact hs b (h.own.lt b hb).2 fun cur' e => by rw [q] at e; cases e
  · obtain ⟨u, q1, q2⟩ := h.done j l hj hl
    refine ⟨u, q1, q2.other fun b hb => ?_⟩
    obtain ⟨cur, q⟩ := q2.ty hb
    exact hs b (q2.lt hb).2 fun cur' e => by rw [q] at e; cases e
  · obtain ⟨u, q1, q2⟩ := h.todo j l hj hl
    refine ⟨u, q1, own_other q2 fun b hb => ?_⟩
    obtain ⟨cur, q⟩ := own_ty q2 hb
    exact hs b (q2.lt b hb).2 fun cur' e => by rw [q] at e; cases e

/-- One thread more. -/
theorem RmS.step {B : Nat} {w w1 : World} {gV capV : Nat} {T : List (List Ins)} {vs : List Value} {k : Nat} (h : RmS B w (.slice (some ⟨gV, 0, none⟩) T.length capV) T vs k) {l : List Ins} (hl : T[k]? = some l) {u : Value} (hu : vs[k]? = some u) {g' cap' : Nat} {o : Obj} (hown : w1.ownsRow B 48 5 (.slice (some ⟨g', 0, none⟩) (l.length + 1) cap') (l.length + 1) (l.flatMap insV ++ insM)) (hg : (w.alloc o).grownBy w1 u.ownBlock) (hap : u.ownBlock = some g' ∨ w.heap.size + 1 ≤ g') :
    RmS B ((w1.setCell ⟨gV, k, none⟩ (.slice (some ⟨g', 0, none⟩) (l.length + 1) cap')).setCell ⟨gV, k, none⟩ (.slice (some ⟨g', 0, none⟩) l.length cap')) (.slice (some ⟨gV, 0, none⟩) T.length capV) T (vs.set k (.slice (some ⟨g', 0, none⟩) l.length cap')) (k + 1) := by
  have hkT := (List.getElem?_eq_some_iff.1 hl).1
  have hvl : vs.length = T.length * 1 := h.own.1
  obtain ⟨u', q1, q2⟩ := h.todo k l (Nat.le_refl _) hl
  rw [hu] at q1
  cases q1
  obtain ⟨cV, hcV⟩ := own_ty h.own (b := gV) rfl
  have hVl := (h.own.lt gV rfl).2
  have hkey : ∀ b, b < w.heap.size → u.ownBlock ≠ some b → w1.heap[b]? = w.heap[b]? := fun b hb hne => by
    rw [hg.block b (by simp; omega) (fun e => hne e.symm), Below.heap_alloc _ _ _ hb]
  have huV : u.ownBlock ≠ some gV := fun e => by
    obtain ⟨c1, r1⟩ := own_ty q2 e
    rw [hcV] at r1
    cases r1
  have hown1 : w1.ownsRow B 46 1 (.slice (some ⟨gV, 0, none⟩) T.length capV) T.length vs := own_other h.own fun b hb => by
    have e : gV = b := by simpa [Value.ownBlock] using hb
    subst e
    exact hkey gV hVl huV
  have s1 := (hown1.stored k (.slice (some ⟨g', 0, none⟩) (l.length + 1) cap')).1
  have s2 := (s1.stored k (.slice (some ⟨g', 0, none⟩) l.length cap')).1
  rw [List.set_set] at s2
  have hoth : ∀ b, b ≠ gV → ((w1.setCell ⟨gV, k, none⟩ (.slice (some ⟨g', 0, none⟩) (l.length + 1) cap')).setCell ⟨gV, k, none⟩ (.slice (some ⟨g', 0, none⟩) l.length cap')).heap[b]? = w1.heap[b]? := fun b hb => by rw [Below.heap_setCell _ _ _ _ hb, Below.heap_setCell _ _ _ _ hb]
  have hI : ∀ b, (∃ cur, w.heap[b]? = some (.cells cur 48 (0, 0))) → u.ownBlock ≠ some b → ((w1.setCell ⟨gV, k, none⟩ (.slice (some ⟨g', 0, none⟩) (l.length + 1) cap')).setCell ⟨gV, k, none⟩ (.slice (some ⟨g', 0, none⟩) l.length cap')).heap[b]? = w.heap[b]? := fun b ⟨cur, q⟩ hne => by
    rw [hoth b (fun e => by rw [e, hcV] at q; cases q), hkey b (heap_ltA q) hne]
  have hgV : g' ≠ gV := fun e => by
    obtain ⟨c1, r1⟩ := own_ty hown (b := g') rfl
    obtain ⟨c2, r2⟩ := own_ty hown1 (b := gV) rfl
    rw [e, r2] at r1
    cases r1
  refine ⟨s2, fun j m hj hm => ?_, fun j m hj hm => ?_, fun i j a z b hij ha hz hb => ?_⟩
  · by_cases e : j = k
    · subst e
      rw [hl] at hm
      cases hm
      refine ⟨_, List.getElem?_set_self (by omega), g', cap', rfl, own_other hown fun b hb => ?_⟩
      have e : g' = b := by simpa [Value.ownBlock] using hb
      subst e
      exact hoth g' hgV
    · obtain ⟨v, r1, r2⟩ := h.done j m (by omega) hm
      refine ⟨v, by rw [List.getElem?_set_ne (fun q => e q.symm)]; exact r1, r2.other fun b hb => hI b (r2.ty hb) (h.apart j k v u b e r1 hu hb)⟩
  · have e : j ≠ k := by omega
    obtain ⟨v, r1, r2⟩ := h.todo j m (by omega) hm
    exact ⟨v, by rw [List.getElem?_set_ne (fun q => e q.symm)]; exact r1, own_other r2 fun b hb => hI b (own_ty r2 hb) (h.apart j k v u b e r1 hu hb)⟩
  · have hvt : ∀ (j : Nat) (v : Value) (b : Nat), j ≠ k → vs[j]? = some v → v.ownBlock = some b → b ≠ g' := fun j v b hjk hv hvb e => by
      have hjl := (List.getElem?_eq_some_iff.1 hv).1
      obtain ⟨m, hm⟩ := get_of_lt (l := T) (k := j) (by omega)
      have hlt : b < w.heap.size := by
        by_cases hj : j < k
        · obtain ⟨v', r1, r2⟩ := h.done j m hj hm
          rw [hv] at r1; cases r1
          exact (r2.lt hvb).2
        · obtain ⟨v', r1, r2⟩ := h.todo j m (by omega) hm
          rw [hv] at r1; cases r1
          exact (r2.lt b hvb).2
      subst e
      rcases hap with q | q
      · exact h.apart j k v u b hjk hv hu hvb q
      · omega
    by_cases hi : i = k
    · subst hi
      rw [List.getElem?_set_self (by omega)] at ha
      cases ha
      have e : g' = b := by simpa [Value.ownBlock] using hb
      subst e
      rw [List.getElem?_set_ne hij] at hz
      exact fun q => hvt j z g' (fun e => hij e.symm) hz q rfl
    · rw [List.getElem?_set_ne (fun q => hi q.symm)] at ha
      by_cases hj : j = k
      · subst hj
        rw [List.getElem?_set_self (by omega)] at hz
        cases hz
        intro q
        have e : g' = b := by simpa [Value.ownBlock] using q
        exact hvt i a b hi ha hb e.symm
      · rw [List.getElem?_set_ne (fun q => hj q.symm)] at hz
        exact h.apart i j a z b hij ha hz hb

theorem own_someW {w : World} {B : Nat} {e : TypeId} {s : Nat} {v : Value} {n : Nat} {xs : List Value} (h : w.ownsRow B e s v (n + 1) xs) : ∃ g cap, v = .slice (some ⟨g, 0, none⟩) (n + 1) cap ∧ n + 1 ≤ cap ∧ cap ≤ 9223372036854775807 := by
  rcases h.2 with ⟨_, h0⟩ | ⟨g, cap, _, q, _, _, q1, q2, _⟩
  · omega
  · exact ⟨g, cap, q, q1, q2⟩

/-- roomy's own memory. -/
structure RSt (w wr : World) (vt vc : Value) (fa : Bool) (C : Nat) (V vc' : Value) (T : List (List Ins)) (c : List Atm) (vs : List Value) (k : Nat) : Prop where
  below : Below w.heap.size w wr
  s0 : wr.heap[w.heap.size]? = some (.cells #[vt, .bool fa, vc] 25 (0, 0))
  s1 : wr.heap[w.heap.size + 1]? = some (.cells #[.slice none 0 0, .bool false, .slice none 0 0] 25 (0, 0))
  cb : wr.heap[C]? = some (.cells #[V, .bool fa, vc'] 25 (0, 0))
  hC : w.heap.size + 2 ≤ C
  rm : RmS (w.heap.size + 2) wr V T vs k
  atm : wr.ownsRow (w.heap.size + 2) 104 3 vc' c.length (c.flatMap atmV)

theorem RSt.drew {w wr : World} {vt vc : Value} {fa : Bool} {C : Nat} {V vc' : Value} {T : List (List Ins)} {c : List Atm} {vs : List Value} {k : Nat} (h : RSt w wr vt vc fa C V vc' T c vs k) : RSt w wr.drew vt vc fa C V vc' T c vs k := ⟨h.below.drew, h.s0, h.s1, h.cb, h.hC, h.rm.other (fun _ _ _ => rfl), h.atm.drew⟩

/-- A test in lists of its own, each with a mark behind it. -/
structure RmT (B H : Nat) (w : World) (vt vc : Value) (T : List (List Ins)) (c : List Atm) (vs : List Value) : Prop where
  thr : ∃ g cap gz, vt = .slice (some ⟨g, 0, none⟩) T.length cap ∧ w.ownsRow B 46 1 (.slice (some ⟨g, 0, none⟩) (T.length + 1) cap) (T.length + 1) (vs ++ [.slice (some ⟨gz, 0, none⟩) 1 1]) ∧ w.heap[gz]? = some (.cells #[.int .i64 (-1000), .int .i64 0, .int .i64 0, .int .i64 0, .int .i64 0] 48 (0, 0)) ∧ B ≤ gz ∧ gz < H ∧ g < H
  rows : ∀ (j : Nat) (l : List Ins), T[j]? = some l → ∃ u, vs[j]? = some u ∧ WidG B w 48 5 u l.length (l.flatMap insV) insM ∧ ∀ b, u.ownBlock = some b → b < H
  len : vs.length = T.length
  atm : WidG B w 104 3 vc c.length (c.flatMap atmV) atmM
  ah : ∀ b, vc.ownBlock = some b → b < H

theorem RSt.fin {w wr w8 w9 wf : World} {vt vc : Value} {fa : Bool} {C : Nat} {V vc' : Value} {T : List (List Ins)} {c : List Atm} {vs : List Value} (h : RSt w wr vt vc fa C V vc' T c vs T.length) {g8 cap8 ga capa : Nat} {x1 x2 : Value} {o2 o3 : Obj}
    (hown8 : w8.ownsRow (w.heap.size + 2) 46 1 (.slice (some ⟨g8, 0, none⟩) (T.length + 1) cap8) (T.length + 1) (vs ++ [.slice (some ⟨wr.heap.size, 0, none⟩) 1 1])) (hg8 : ((wr.alloc (.cells #[.int .i64 (-1000), .int .i64 0, .int .i64 0, .int .i64 0, .int .i64 0] 48)).alloc o2).grownBy w8 V.ownBlock)
    (hown9 : w9.ownsRow (w.heap.size + 2) 104 3 (.slice (some ⟨ga, 0, none⟩) (c.length + 1) capa) (c.length + 1) (c.flatMap atmV ++ atmM)) (hg9 : (((w8.setCell ⟨C, 0, none⟩ x1).setCell ⟨C, 0, none⟩ x2).alloc o3).grownBy w9 vc'.ownBlock)
    (hos : wf.os = w9.os) (htp : wf.tape = w9.tape) (hou : wf.output = w9.output) (hsz : wf.heap.size = w9.heap.size) (hwf : ∀ b, b ≠ C → b ≠ w.heap.size + 1 → wf.heap[b]? = w9.heap[b]?) :
    RmT w.heap.size wf.heap.size wf (.slice (some ⟨g8, 0, none⟩) T.length cap8) (.slice (some ⟨ga, 0, none⟩) c.length capa) T c vs ∧ Below w.heap.size w wf := by
  have hCl := heap_ltA h.cb
  have hCw := h.hC
  have hws := h.below.size
  have hs8 : wr.heap.size + 2 ≤ w8.heap.size := by have := hg8.size; simpa using this
  have hs9 : w8.heap.size + 1 ≤ w9.heap.size := by have := hg9.size; simpa [World.setCell] using this
  have k8 : ∀ b, b < wr.heap.size + 1 → V.ownBlock ≠ some b → w8.heap[b]? = (wr.alloc (.cells #[.int .i64 (-1000), .int .i64 0, .int .i64 0, .int .i64 0, .int .i64 0] 48)).heap[b]? := fun b hb hne => by
    rw [hg8.block b (by simp; omega) (fun e => hne e.symm), Below.heap_alloc _ _ _ (by simpa using hb)]
  have k9 : ∀ b, b < w8.heap.size → b ≠ C → vc'.ownBlock ≠ some b → w9.heap[b]? = w8.heap[b]? := fun b hb hbC hne => by
    rw [hg9.block b (by simp [World.setCell]; omega) (fun e => hne e.symm), Below.heap_alloc _ _ _ (by simpa [World.setCell] using hb), Below.heap_setCell _ _ _ _ hbC, Below.heap_setCell _ _ _ _ hbC]
  have hC8 : w8.heap[C]? = wr.heap[C]? := by
    rw [k8 C (by omega) (fun e => by obtain ⟨cur, q⟩ := own_ty h.rm.own e; rw [h.cb] at q; cases q), Below.heap_alloc _ _ _ hCl]
  have hCt : ∀ (b : Nat) (t : TypeId) (cur : Array Value), w8.heap[b]? = some (.cells cur t (0, 0)) → t ≠ 25 → b ≠ C := fun b t cur q ht e => by
    rw [e, hC8, h.cb] at q; cases q; exact ht rfl
  have hat8 : ∀ b, vc'.ownBlock = some b → ∃ cur, w8.heap[b]? = some (.cells cur 104 (0, 0)) := fun b hb => by
    obtain ⟨cur, q⟩ := own_ty h.atm hb
    refine ⟨cur, ?_⟩
    rw [k8 b (by have := heap_ltA q; omega) (fun e => by obtain ⟨cur', q'⟩ := own_ty h.rm.own e; rw [q] at q'; cases q'), Below.heap_alloc _ _ _ (heap_ltA q)]
    exact q
  have hs1 : ∀ (b : Nat) (t : TypeId) (cur : Array Value), w8.heap[b]? = some (.cells cur t (0, 0)) → t ≠ 25 → t ≠ 104 → wf.heap[b]? = w8.heap[b]? := fun b t cur q ht ha => by
    have hb2 : w8.heap[w.heap.size + 1]? = wr.heap[w.heap.size + 1]? := by
      rw [k8 _ (by omega) (fun e => by have := (h.rm.own.lt _ e).1; omega), Below.heap_alloc _ _ _ (by omega)]
    rw [hwf b (hCt b t cur q ht) (fun e => by rw [e, hb2, h.s1] at q; cases q; exact ht rfl), k9 b (heap_ltA q) (hCt b t cur q ht) (fun e => by obtain ⟨c2, q2⟩ := hat8 b e; rw [q] at q2; cases q2; exact ha rfl)]
  have hlow : ∀ b, b < w.heap.size → wf.heap[b]? = w.heap[b]? := fun b hb => by
    rw [hwf b (by omega) (by omega), k9 b (by omega) (by omega) (fun e => by have := (h.atm.lt b e).1; omega), k8 b (by omega) (fun e => by have := (h.rm.own.lt b e).1; omega), Below.heap_alloc _ _ _ (by omega), h.below.block b hb]
  refine ⟨⟨⟨g8, cap8, wr.heap.size, rfl, own_base (own_other hown8 fun b hb => ?_) (by omega), ?_, by omega, by omega, ?_⟩, fun j l hl => ?_, by have := h.rm.own.1; omega, ⟨ga, capa, rfl, own_base (own_other hown9 fun b hb => ?_) (by omega)⟩, fun b hb => ?_⟩, ⟨?_, ?_, ?_, by omega, hlow⟩⟩
  · obtain ⟨cur, q⟩ := own_ty hown8 hb
    exact hs1 b _ cur q (by decide) (by decide)
  · have q : w8.heap[wr.heap.size]? = some (.cells #[.int .i64 (-1000), .int .i64 0, .int .i64 0, .int .i64 0, .int .i64 0] 48 (0, 0)) := by
      rw [k8 _ (by omega) (fun e => by have := (h.rm.own.lt _ e).2; omega), heap_alloc_new]
    rw [hs1 _ _ _ q (by decide) (by decide)]
    exact q
  · have := (hown8.lt g8 rfl).2; omega
  · obtain ⟨u, q1, q2⟩ := h.rm.done j l (List.getElem?_eq_some_iff.1 hl).1 hl
    refine ⟨u, q1, (q2.other fun b hb => ?_).base (by omega), fun b hb => by have := (q2.lt hb).2; omega⟩
    obtain ⟨cur, q⟩ := q2.ty hb
    have e8 : w8.heap[b]? = wr.heap[b]? := by
      rw [k8 b (by have := heap_ltA q; omega) (fun e => by obtain ⟨cur', q'⟩ := own_ty h.rm.own e; rw [q] at q'; cases q'), Below.heap_alloc _ _ _ (heap_ltA q)]
    rw [hs1 b _ cur (e8.trans q) (by decide) (by decide), e8]
  · obtain ⟨cur, q⟩ := own_ty hown9 hb
    refine hwf b (fun e => ?_) (fun e => ?_)
    · have hC9 : ∃ cur, w9.heap[C]? = some (.cells cur 25 (0, 0)) := by
        have h8a : ((w8.setCell ⟨C, 0, none⟩ x1).setCell ⟨C, 0, none⟩ x2).heap[C]? = some (.cells (((#[V, .bool fa, vc'] : Array Value).setIfInBounds 0 x1).setIfInBounds 0 x2) 25 (0, 0)) := heap_setCell_same _ _ _ _ _ _ (heap_setCell_same _ _ _ _ _ _ (hC8.trans h.cb))
        refine ⟨_, Eq.trans ?_ h8a⟩
        rw [hg9.block C (by simp [World.setCell]; omega) (fun e => by obtain ⟨c2, q2⟩ := hat8 C e.symm; rw [hC8, h.cb] at q2; cases q2), Below.heap_alloc _ _ _ (by simp [World.setCell]; omega)]
      obtain ⟨c3, q3⟩ := hC9
      rw [e, q3] at q; cases q
    · have hb2 : w9.heap[w.heap.size + 1]? = wr.heap[w.heap.size + 1]? := by
        rw [k9 _ (by omega) (by omega) (fun e => by have := (h.atm.lt _ e).1; omega), k8 _ (by omega) (fun e => by have := (h.rm.own.lt _ e).1; omega), Below.heap_alloc _ _ _ (by omega)]
      rw [e, hb2, h.s1] at q; cases q
  · have := (hown9.lt b (by simpa [Value.ownBlock] using hb)).2; omega
  · rw [hos, hg9.os]; exact hg8.os.trans h.below.os
  · rw [htp, hg9.tape]; exact hg8.tape.trans h.below.tape
  · rw [hou, hg9.output]; exact hg8.output.trans h.below.output

end Go.Proofs.YtomijmikkbhgmaaGreat

namespace Go.Proofs.YtomijmikkbhgmaaGreat
open Go.RowKit

theorem WidG.cells {α : Type} {B : Nat} {w : World} {e : TypeId} {s g n cap : Nat} {l : List α} {f : α → List Value} {mk : List Value} (h : w.ownsRow B e s (.slice (some ⟨g, 0, none⟩) (n + 1) cap) (n + 1) (l.flatMap f ++ mk)) (hf : ∀ x, (f x).length = s) (hn : n = l.length) {k : Nat} {x : α} (hx : l[k]? = some x) {i : Nat} (hi : i < s) : w.cell? ⟨g, k * s + i, none⟩ = (f x)[i]? := by
  have hk := (List.getElem?_eq_some_iff.1 hx).1
  have hle : (k + 1) * s ≤ n * s := Nat.mul_le_mul_right _ (by omega)
  rw [Nat.add_mul, Nat.one_mul] at hle
  have hle2 : (n + 1) * s = n * s + s := by rw [Nat.add_mul, Nat.one_mul]
  rw [h.cellAt _ (by omega), List.getElem?_append_left (by rw [flat_len f s hf]; rw [← hn]; omega), flat_get f s hf l k i x hx hi]
theorem WidG.mark {α : Type} {B : Nat} {w : World} {e : TypeId} {s g n cap : Nat} {l : List α} {f : α → List Value} {mk : List Value} (h : w.ownsRow B e s (.slice (some ⟨g, 0, none⟩) (n + 1) cap) (n + 1) (l.flatMap f ++ mk)) (hf : ∀ x, (f x).length = s) (hn : n = l.length) {i : Nat} (hi : i < s) : w.cell? ⟨g, n * s + i, none⟩ = mk[i]? := by
  have hle2 : (n + 1) * s = n * s + s := by rw [Nat.add_mul, Nat.one_mul]
  have hl := flat_len f s hf l
  rw [← hn] at hl
  rw [h.cellAt _ (by omega), List.getElem?_append_right (by omega), hl]
  congr 1
  omega

theorem own_room {w : World} {B : Nat} {e : TypeId} {s g n m cap : Nat} {xs : List Value} (h : w.ownsRow B e s (.slice (some ⟨g, 0, none⟩) n cap) m xs) : n ≤ cap ∧ cap ≤ 9223372036854775807 := by
  rcases h.2 with ⟨q, _⟩ | ⟨_, _, _, q, _, _, q1, q2, _⟩
  · cases q
  · cases q; exact ⟨q1, q2⟩

set_option maxRecDepth 20000 in
set_option maxHeartbeats 4000000 in
theorem codeKept_any (B : Nat) (l : List Ins) (hl : l.length ≤ 4000000) (u v : Value) (w : World) (hu : WidG B w 48 5 u l.length (l.flatMap insV) insM) (hv : InsAt w v l) :
    Calls Tryz.prog 71 #[u, v] w fun e w' => e = .returned (.bool true) ∧ Below w.heap.size w w' := by
  obtain ⟨g, cap, rfl, ho⟩ := hu
  obtain ⟨_, ao, b, off, cap2, hs⟩ := hv
  have hvv := hs.hv
  have ha := hs.ha
  subst hvv
  obtain ⟨hnc, hcm⟩ := own_room ho
  have HC : Hid (∀ k x, l[k]? = some x → InsC w b (off + k * 5) x ∧ w.cell? ⟨g, k * 5, none⟩ = some (.int .i64 x.op) ∧ w.cell? ⟨g, k * 5 + 1, none⟩ = some (.int .i64 x.loc) ∧ w.cell? ⟨g, k * 5 + 2, none⟩ = some (.int .i64 x.reg) ∧ w.cell? ⟨g, k * 5 + 3, none⟩ = some (.int .i64 x.val) ∧ w.cell? ⟨g, k * 5 + 4, none⟩ = some (.int .i64 x.mode)) := fun k x hx => ⟨hs.hc k x hx, WidG.cells ho (fun _ => rfl) rfl hx (i := 0) (by omega), WidG.cells ho (fun _ => rfl) rfl hx (i := 1) (by omega), WidG.cells ho (fun _ => rfl) rfl hx (i := 2) (by omega), WidG.cells ho (fun _ => rfl) rfl hx (i := 3) (by omega), WidG.cells ho (fun _ => rfl) rfl hx (i := 4) (by omega)⟩
  have m0 : w.cell? ⟨g, l.length * 5, none⟩ = some (.int .i64 (-1000)) := WidG.mark ho (fun _ => rfl) rfl (i := 0) (by omega)
  have m1 : w.cell? ⟨g, l.length * 5 + 1, none⟩ = some (.int .i64 0) := WidG.mark ho (fun _ => rfl) rfl (i := 1) (by omega)
  have m2 : w.cell? ⟨g, l.length * 5 + 2, none⟩ = some (.int .i64 0) := WidG.mark ho (fun _ => rfl) rfl (i := 2) (by omega)
  have m3 : w.cell? ⟨g, l.length * 5 + 3, none⟩ = some (.int .i64 0) := WidG.mark ho (fun _ => rfl) rfl (i := 3) (by omega)
  have m4 : w.cell? ⟨g, l.length * 5 + 4, none⟩ = some (.int .i64 0) := WidG.mark ho (fun _ => rfl) rfl (i := 4) (by omega)
  have k0 : ((l.length : Int) != (l.length : Int)) = false := by simp
  clear hs ho
  go_enter Tryz.func71, Tryz.ntmps71
  go_wp2_with fail
  go_loopw [6] (fun i wr => ∃ k : Nat, k ≤ l.length ∧ i = .int .i64 k ∧ Below w.heap.size w wr) (fun i _ => l.length - (intOf i).toNat)
  case atStart => exact ⟨0, Nat.zero_le _, rfl, Below.refl _ _⟩
  case round =>
    obtain ⟨k, hk, rfl, hb⟩ := hrel
    by_cases hlt : k < l.length
    · obtain ⟨x, hx⟩ := get_of_lt hlt
      obtain rfl := ha (ne_nil hlt)
      obtain ⟨q0, p0, p1, p2, p3, p4⟩ := HC.out k x hx
      obtain ⟨c0, c1, c2, c3, c4⟩ := insC_keeps _ _ _ _ _ hb q0
      replace p0 := keep_cell hb p0
      replace p1 := keep_cell hb p1
      replace p2 := keep_cell hb p2
      replace p3 := keep_cell hb p3
      replace p4 := keep_cell hb p4
      have n0 : (x.op != x.op) = false := by simp
      have n1 : (x.loc != x.loc) = false := by simp
      have n2 : (x.reg != x.reg) = false := by simp
      have n3 : (x.val != x.val) = false := by simp
      have n4 : (x.mode != x.mode) = false := by simp
      have hkI : (k : Int) < (l.length : Int) := by omega
      have hkJ : (k : Int) < (l.length : Int) + 1 := by omega
      clear hx q0 m0 m1 m2 m3 m4
      go_wp2_with fail
      go_quiet (fail)
      go_wp2_with fail
      go_roundw
      case measure => simp [intOf]; omega
      case rel => exact ⟨k + 1, by omega, by go_num, below_drewN hb _⟩
    · have hkI : (l.length : Int) ≤ (k : Int) := by omega
      replace m0 := keep_cell hb m0
      replace m1 := keep_cell hb m1
      replace m2 := keep_cell hb m2
      replace m3 := keep_cell hb m3
      replace m4 := keep_cell hb m4
      clear HC
      go_wp2_with fail
      go_ret
      exact ⟨rfl, hb.alloc hb.size _⟩

end Go.Proofs.YtomijmikkbhgmaaGreat
