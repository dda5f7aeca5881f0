import Derived.Test.YtomijmikkbhgmabT38
import Derived.Test.YtomijmikkbhgmabT22
namespace Go.Proofs.Ytomijmikkbhgmab
open Go.RowKit

theorem ty_ins_rows : (37 : TypeId) ≠ 34 := by decide
theorem ty_test_inss : (25 : TypeId) ≠ 34 := by decide

/-- What has been built: U, in rows of its own; block b + 2 holds the test. -/
structure FS (w wr : World) (bx : Array Value) (fa : Bool) (vc V : Value) (U : List (List Ins)) (vs : List Value) : Prop where
  below : Below w.heap.size w wr
  b : wr.heap[w.heap.size]? = some (.cells bx 25 (0, 0))
  r : wr.heap[w.heap.size + 1]? = some (.cells #[.slice none 0 0, .bool false, .slice none 0 0] 25 (0, 0))
  c : wr.heap[w.heap.size + 2]? = some (.cells #[V, .bool fa, vc] 25 (0, 0))
  own : wr.ownsRow (w.heap.size + 3) 34 1 V U.length vs
  rows : ∀ (j : Nat) (l : List Ins), U[j]? = some l → ∃ u, vs[j]? = some u ∧ wr.ownsRow (w.heap.size + 3) 37 5 u l.length (l.flatMap insV)

theorem FS.keep {w wr w' : World} {bx : Array Value} {fa : Bool} {vc V : Value} {U : List (List Ins)} {vs : List Value} (h : FS w wr bx fa vc V U vs) (hb : Below wr.heap.size wr w') : FS w w' bx fa vc V U vs := by
  refine ⟨below_more h.below hb, (hb.block _ (heap_lt h.b)).trans h.b, (hb.block _ (heap_lt h.r)).trans h.r, (hb.block _ (heap_lt h.c)).trans h.c, own_keep h.own hb, fun j l hl => ?_⟩
  obtain ⟨u, h1, h2⟩ := h.rows j l hl
  exact ⟨u, h1, own_keep h2 hb⟩

/-- One thread more. -/
theorem FS.step {w w1 w2 : World} {bx : Array Value} {fa : Bool} {vc V V' : Value} {U : List (List Ins)} {vs : List Value} (h : FS w w1 bx fa vc V U vs) {l : List Ins} {u : Value} {o : Obj} (hu : w1.ownsRow (w.heap.size + 3) 37 5 u l.length (l.flatMap insV))
    (hown : w2.ownsRow (w.heap.size + 3) 34 1 V' (U.length + 1) (vs ++ [u])) (hg : (w1.alloc o).grownBy w2 V.ownBlock) : FS w (w2.setCell ⟨w.heap.size + 2, 0, none⟩ V') bx fa vc V' (U ++ [l]) (vs ++ [u]) ∧ w2.heap[w.heap.size + 2]? = some (.cells #[V, .bool fa, vc] 25 (0, 0)) := by
  have key : ∀ (b : Nat) (cur : Array Value) (t : TypeId), t ≠ 34 → w1.heap[b]? = some (.cells cur t (0, 0)) → w2.heap[b]? = w1.heap[b]? := fun b cur t ht hh => by
    rw [hg.block b (by have := heap_lt hh; simp; omega) (fun e => ?_), Below.heap_alloc _ _ _ (heap_lt hh)]
    obtain ⟨cur', hh'⟩ := own_type h.own e.symm
    rw [hh] at hh'
    cases hh'
    exact ht rfl
  have kb := (key _ _ _ ty_test_inss h.b).trans h.b
  have kr := (key _ _ _ ty_test_inss h.r).trans h.r
  have kc := (key _ _ _ ty_test_inss h.c).trans h.c
  have hbel : Below w.heap.size w w2 := grown_below h.below hg fun b hb => by have := (h.own.lt b hb).1; omega
  have hoth : ∀ b : Nat, b ≠ w.heap.size + 2 → (w2.setCell ⟨w.heap.size + 2, 0, none⟩ V').heap[b]? = w2.heap[b]? := fun b hb => Below.heap_setCell _ _ _ _ hb
  have hrow : ∀ {u : Value} {l : List Ins}, w1.ownsRow (w.heap.size + 3) 37 5 u l.length (l.flatMap insV) → (w2.setCell ⟨w.heap.size + 2, 0, none⟩ V').ownsRow (w.heap.size + 3) 37 5 u l.length (l.flatMap insV) := fun hu => own_other hu fun b hb => by
    obtain ⟨cur, hh⟩ := own_type hu hb
    have := (hu.lt b hb).1
    rw [hoth b (by omega), key b cur _ ty_ins_rows hh]
  have hul : vs.length = U.length := by have := h.own.1; omega
  refine ⟨⟨hbel.setCell (by show w.heap.size ≤ w.heap.size + 2; omega) _, (hoth _ (by omega)).trans kb, (hoth _ (by omega)).trans kr, ?_, ?_, fun j m hm => ?_⟩, kc⟩
  · rw [heap_setCell_same _ _ _ _ _ _ kc]
    rfl
  · rw [List.length_append]
    exact own_other hown fun b hb => hoth b (by have := (hown.lt b hb).1; omega)
  · by_cases hj : j < U.length
    · rw [List.getElem?_append_left hj] at hm
      obtain ⟨x, h1, h2⟩ := h.rows j m hm
      exact ⟨x, by rw [List.getElem?_append_left (by omega)]; exact h1, hrow h2⟩
    · have hjl : j = U.length := by
        have := (List.getElem?_eq_some_iff.1 hm).1
        simp at this; omega
      subst hjl
      rw [List.getElem?_append_right (Nat.le_refl _), Nat.sub_self] at hm
      simp at hm
      subst hm
      exact ⟨u, by rw [← hul, List.getElem?_append_right (Nat.le_refl _), Nat.sub_self]; rfl, hrow hu⟩

/-- What was built, read as a test. -/
theorem FS.done {w w1 w' : World} {bx : Array Value} {fa : Bool} {vc V : Value} {U : List (List Ins)} {vs : List Value} (h : FS w w1 bx fa vc V U vs) (hT : U.length * 24 ≤ 140737488351232) (hl : ∀ l ∈ U, l.length * 40 ≤ 140737488351232) (hs : ∀ b : Nat, w.heap.size + 3 ≤ b → w'.heap[b]? = w1.heap[b]?) : ThrAt w' V U := by
  refine thr_of_own (base := w.heap.size + 3) (vs := vs) hT (own_other h.own fun b hb => hs b (h.own.lt b hb).1) fun j l hj => ?_
  obtain ⟨u, h1, h2⟩ := h.rows j l hj
  exact ⟨u, h1, owns_ins (hl l (List.mem_of_getElem? hj)) (own_other h2 fun b hb => hs b (h2.lt b hb).1)⟩

/-! fenced -/
def fenF : Ins := ⟨4, 0, 0, 0, 0⟩
def wv (l : List Ins) : List Ins := (l.flatMap fun x => [fenF, x]).drop 1
theorem wv_len (l : List Ins) : (wv l).length = 2 * l.length - 1 := by
  unfold wv
  rw [List.length_drop, flat_len _ 2 (fun _ => rfl)]
  omega
theorem wv_nil : wv [] = [] := rfl
theorem wv_one (x : Ins) : wv [x] = [x] := rfl
theorem wv_snoc {l : List Ins} (hl : l ≠ []) (x : Ins) : wv (l ++ [x]) = wv l ++ [fenF] ++ [x] := by
  unfold wv
  rw [List.flatMap_append, List.drop_append, List.append_assoc]
  have : (l.flatMap fun x => [fenF, x]).length = l.length * 2 := flat_len _ 2 (fun _ => rfl) l
  have hp : 0 < l.length := List.length_pos_iff.2 hl
  rw [this, show 1 - l.length * 2 = 0 by omega]
  rfl
theorem wv_fen (T : List (List Ins)) : Fen (T.map wv) := by
  intro l hl p x hx hp
  obtain ⟨m, _, rfl⟩ := List.mem_map.1 hl
  unfold wv at hx
  rw [List.getElem?_drop] at hx
  have hlen := (List.getElem?_eq_some_iff.1 hx).1
  rw [flat_len _ 2 (fun _ => rfl)] at hlen
  obtain ⟨y, hy⟩ := get_of_lt (l := m) (k := (1 + p) / 2) (by omega)
  have := flat_get (fun x : Ins => [fenF, x]) 2 (fun _ => rfl) m ((1 + p) / 2) 0 y hy (by omega)
  rw [show (1 + p) / 2 * 2 + 0 = 1 + p by omega, hx] at this
  exact Option.some.inj this

/-! single -/
def sgI (d : Int) (x : Ins) : Ins := if 0 ≤ x.op ∧ x.op ≤ 3 then { x with loc := d } else x
def sg (d : Int) (l : List Ins) : List Ins := (l.filter fun x => decide (x.op < 5)).map (sgI d)
theorem sg_len (d : Int) (l : List Ins) : (sg d l).length ≤ l.length := by
  unfold sg
  rw [List.length_map]
  exact List.length_filter_le _ _
theorem sg_snoc_in (d : Int) (l : List Ins) {x : Ins} (h : x.op < 5) : sg d (l ++ [x]) = sg d l ++ [sgI d x] := by
  unfold sg
  rw [List.filter_append, List.map_append]
  simp [h]
theorem sg_snoc_out (d : Int) (l : List Ins) {x : Ins} (h : ¬ x.op < 5) : sg d (l ++ [x]) = sg d l := by
  unfold sg
  rw [List.filter_append, List.map_append]
  simp [h]
theorem sg_events (d : Int) (T : List (List Ins)) : ∀ y ∈ evsT (T.map (sg d)) 0, (y.kind = 0 ∨ y.kind = 1) ∧ y.loc = d := by
  intro y hy
  obtain ⟨e, he⟩ := List.getElem?_of_mem hy
  obtain ⟨i, r, l, ha⟩ := at_of he
  obtain ⟨p, t, x, kd, h1, h2, h3, _⟩ := evsI_split ha.2.1
  have hl := List.mem_of_getElem? ha.1
  obtain ⟨m, _, rfl⟩ := List.mem_map.1 hl
  have hx := List.mem_of_getElem? h1
  unfold sg at hx
  obtain ⟨z, hz, rfl⟩ := List.mem_map.1 hx
  have hz5 : z.op < 5 := by simpa using (List.mem_filter.1 hz).2
  have hop : (sgI d z).op = z.op := by unfold sgI; split <;> rfl
  rw [hop] at h2
  by_cases hc : 0 ≤ z.op ∧ z.op ≤ 3
  · have hloc : (sgI d z).loc = d := by unfold sgI; rw [if_pos hc]
    rw [h3]
    refine ⟨?_, hloc⟩
    show kd = 0 ∨ kd = 1
    have hk := List.mem_of_getElem? h2
    have h4 : z.op = 0 ∨ z.op = 1 ∨ z.op = 2 ∨ z.op = 3 := by omega
    rcases h4 with q | q | q | q <;> rw [q] at hk
    · have : kd = 1 := by simpa [kindsOf] using hk
      exact .inr this
    · have : kd = 1 := by simpa [kindsOf] using hk
      exact .inr this
    · have : kd = 0 := by simpa [kindsOf] using hk
      exact .inl this
    · simpa [kindsOf] using hk
  · exfalso
    have hk := List.mem_of_getElem? h2
    unfold kindsOf at hk
    rw [if_neg (by simp; omega), if_neg (by simp; omega), if_neg (by simp; omega), if_neg (by simp; omega), if_neg (by simp; omega), if_neg (by simp; omega)] at hk
    cases hk

end Go.Proofs.Ytomijmikkbhgmab

namespace Go.Proofs.Ytomijmikkbhgmab
open Go.RowKit

theorem fs_init (w : World) (vt vc : Value) (fa : Bool) : FS w (((w.alloc (.cells #[vt, .bool fa, vc] 25)).alloc (.cells #[.slice none 0 0, .bool false, .slice none 0 0] 25)).alloc (.cells #[.slice none 0 0, .bool fa, vc] 25)) #[vt, .bool fa, vc] fa vc (.slice none 0 0) [] [] := by
  have k1 := below_alloc (w.alloc (.cells #[vt, .bool fa, vc] 25)) (.cells #[.slice none 0 0, .bool false, .slice none 0 0] 25)
  have k2 := below_alloc ((w.alloc (.cells #[vt, .bool fa, vc] 25)).alloc (.cells #[.slice none 0 0, .bool false, .slice none 0 0] 25)) (.cells #[.slice none 0 0, .bool fa, vc] 25)
  have h1 := heap_alloc_new w (.cells #[vt, .bool fa, vc] 25)
  have h2 := heap_alloc_new (w.alloc (.cells #[vt, .bool fa, vc] 25)) (.cells #[.slice none 0 0, .bool false, .slice none 0 0] 25)
  have h3 := heap_alloc_new ((w.alloc (.cells #[vt, .bool fa, vc] 25)).alloc (.cells #[.slice none 0 0, .bool false, .slice none 0 0] 25)) (.cells #[.slice none 0 0, .bool fa, vc] 25)
  have e1 : (w.alloc (.cells #[vt, .bool fa, vc] 25)).heap.size = w.heap.size + 1 := by simp
  have e2 : ((w.alloc (.cells #[vt, .bool fa, vc] 25)).alloc (.cells #[.slice none 0 0, .bool false, .slice none 0 0] 25)).heap.size = w.heap.size + 2 := by simp
  rw [e1] at h2
  rw [e2] at h3
  refine ⟨below_three _ _ _ _, ?_, ?_, h3, World.ownsRow_nil _ _ _ _, fun j l hl => by simp at hl⟩
  · rw [k2.block _ (by rw [e2]; omega), k1.block _ (by rw [e1]; omega)]; exact h1
  · rw [k2.block _ (by rw [e2]; omega)]; exact h2

theorem FS.cells {w wr : World} {bx : Array Value} {fa : Bool} {vc V : Value} {U : List (List Ins)} {vs : List Value} (h : FS w wr bx fa vc V U vs) : (∀ j, wr.cell? ⟨w.heap.size, j, none⟩ = bx[j]?) ∧ (wr.cell? ⟨w.heap.size + 2, 0, none⟩ = some V ∧ wr.cell? ⟨w.heap.size + 2, 1, none⟩ = some (.bool fa) ∧ wr.cell? ⟨w.heap.size + 2, 2, none⟩ = some vc) ∧ (wr.cell? ⟨w.heap.size + 1, 0, none⟩ = some (.slice none 0 0) ∧ wr.cell? ⟨w.heap.size + 1, 1, none⟩ = some (.bool false) ∧ wr.cell? ⟨w.heap.size + 1, 2, none⟩ = some (.slice none 0 0)) ∧ ∀ j, wr.frozen? ⟨w.heap.size + 1, j, none⟩ = false :=
  ⟨fun j => cell_of_row _ _ j _ _ _ h.b, ⟨by rw [cell_of_row _ _ 0 _ _ _ h.c]; rfl, by rw [cell_of_row _ _ 1 _ _ _ h.c]; rfl, by rw [cell_of_row _ _ 2 _ _ _ h.c]; rfl⟩, ⟨by rw [cell_of_row _ _ 0 _ _ _ h.r]; rfl, by rw [cell_of_row _ _ 1 _ _ _ h.r]; rfl, by rw [cell_of_row _ _ 2 _ _ _ h.r]; rfl⟩, fun j => by simp [World.frozen?, h.r]⟩

theorem ins_snoc (l : List Ins) (x : Ins) : (l ++ [x]).flatMap insV = l.flatMap insV ++ insV x := by rw [List.flatMap_append]; simp

set_option maxRecDepth 20000 in
set_option maxHeartbeats 4000000 in
theorem fencedK_any (T : List (List Ins)) (fa : Bool) (c : List Atm) (hsm : ∀ l ∈ T, l.length ≤ 1000000000000) (vt vc : Value) (w : World) (h : TestAt w (.agg #[vt, .bool fa, vc]) T fa c vt vc) :
    Calls Try.prog 10 #[.agg #[vt, .bool fa, vc]] w fun e w' => ∃ vt', e = .returned (.agg #[vt', .bool fa, vc]) ∧ TestAt w' (.agg #[vt', .bool fa, vc]) (T.map wv) fa c vt' vc ∧ Below w.heap.size w w' := by
  obtain ⟨i5, hi5, hy0, hy1, hy2⟩ := info_parts Try.infoInstr
  have HI5 : Hid (Try.prog.info? 37 = some i5 ∧ i5.zero = some (.agg #[.int .i64 0, .int .i64 0, .int .i64 0, .int .i64 0, .int .i64 0]) ∧ i5.size = 5 ∧ i5.bytes = 40) := ⟨hi5, hy0, hy1, hy2⟩
  obtain ⟨i1, hi1, hx0, hx1, hx2⟩ := info_parts Try.infoInstrs
  have HI1 : Hid (Try.prog.info? 34 = some i1 ∧ i1.zero = some (.slice none 0 0) ∧ i1.size = 1 ∧ i1.bytes = 24) := ⟨hi1, hx0, hx1, hx2⟩
  clear hi5 hy0 hy1 hy2 hi1 hx0 hx1 hx2
  obtain ⟨ht0, ao, b, off, cap, htv, hta, _, htc⟩ := h.ht.opened
  have HVC : Hid (AtmAt w vc c) := h.hc
  obtain ⟨hc0, aoc, bc, offc, capc, hsc⟩ := h.hc
  have hcv := hsc.hv
  subst htv hcv
  have HTC : Hid (∀ k l, T[k]? = some l → ∃ ao2 cap2, w.cell? ⟨b, off + k, none⟩ = some (.slice ao2 l.length cap2) ∧ InsAt w (.slice ao2 l.length cap2) l) := fun k l hk => by obtain ⟨_, ao2, cap2, q1, q2⟩ := htc k l hk; exact ⟨ao2, cap2, q1, q2⟩
  have HSM : Hid (∀ l ∈ T, l.length ≤ 1000000000000) := hsm
  have HT0 : Hid (T.length * 24 ≤ 140737488351232) := ht0
  clear h hsc htc hsm
  go_enter Try.func10, Try.ntmps10
  go_wp2_with fail
  have HS0 : Hid (FS w _ _ fa (.slice aoc c.length capc) (.slice none 0 0) [] []) := fs_init w (.slice ao T.length cap) (.slice aoc c.length capc) fa
  generalize ((w.alloc (.cells #[.slice ao T.length cap, .bool fa, .slice aoc c.length capc] 25)).alloc (.cells #[.slice none 0 0, .bool false, .slice none 0 0] 25)).alloc (.cells #[.slice none 0 0, .bool fa, .slice aoc c.length capc] 25) = w0 at *
  have e11 : w.heap.size + 1 + 1 = w.heap.size + 2 := rfl
  rw [e11]
  clear e11
  go_loopw [4] (fun i wr => ∃ (k : Nat) (V : Value) (vs : List Value), k ≤ T.length ∧ i = .int .i64 k ∧ Hid (FS w wr #[.slice ao T.length cap, .bool fa, .slice aoc c.length capc] fa (.slice aoc c.length capc) V ((T.take k).map wv) vs)) (fun i _ => T.length - (intOf i).toNat)
  case atStart => exact ⟨0, _, [], Nat.zero_le _, rfl, HS0.out⟩
  case round =>
    clear HS0
    obtain ⟨wo, hwo⟩ : ∃ x, x = wr := ⟨_, rfl⟩
    rw [← hwo] at hrel ⊢
    clear hwo
    obtain ⟨k, V, vs, hk, rfl, HS⟩ := hrel
    have b0 : wo.cell? ⟨w.heap.size, 0, none⟩ = some (.slice ao T.length cap) := by rw [HS.out.cells.1]; rfl
    by_cases hlt : k < T.length
    · have hkI : (k : Int) < (T.length : Int) := by omega
      obtain ⟨l, hl⟩ := get_of_lt hlt
      obtain rfl := hta (ne_nil hlt)
      obtain ⟨ao2, cap2, c00, hil⟩ := HTC.out k l hl
      have c0 := keep_cell HS.out.below c00
      obtain ⟨hl40, ao3, b3, off3, cap3, hs3⟩ := hil.keep HS.out.below
      have hv3 := hs3.hv
      simp only [Value.slice.injEq] at hv3
      obtain ⟨rfl, -, rfl⟩ := hv3
      have HS3 : Hid (∀ w', Below wo.heap.size wo w' → ∀ j x, l[j]? = some x → ao2 = some ⟨b3, off3, none⟩ ∧ InsC w' b3 (off3 + j * 5) x) := fun w' hb j x hj => ⟨hs3.ha (ne_nil (List.getElem?_eq_some_iff.1 hj).1), insC_keeps _ _ _ _ _ hb (hs3.hc j x hj)⟩
      have hlsm := HSM.out l (List.mem_of_getElem? hl)
      have HL : Hid (T[k]? = some l) := hl
      have hso := HS.out.below.size
      clear hl c00 hil hs3
      go_wp2_with fail
      go_loopw [5, 6] (fun x y wi => ∃ j : Nat, j ≤ l.length ∧ y = .int .i64 j ∧ Hid (wi.ownsRow wo.heap.size 37 5 x (wv (l.take j)).length ((wv (l.take j)).flatMap insV)) ∧ Below wo.heap.size wo wi) (fun _ y _ => l.length - (intOf y).toNat)
      case atStart => exact ⟨0, Nat.zero_le _, rfl, World.ownsRow_nil _ _ _ _, Below.refl _ _⟩
      case round =>
        obtain ⟨wi, hwi⟩ : ∃ x, x = wr := ⟨_, rfl⟩
        rw [← hwi] at hrel ⊢
        clear hwi
        obtain ⟨j, hj, rfl, HO, hb⟩ := hrel
        have b1 := keep_cell hb b0
        have c1 := keep_cell hb c0
        obtain ⟨a5, cap5, hf5⟩ := own_form1' HO.out
        subst hf5
        have hwl : (wv (l.take j)).length = 2 * j - 1 := by rw [wv_len, List.length_take, Nat.min_eq_left hj]
        rw [hwl] at HO ⊢
        have hsi := hb.size
        by_cases hjl : j < l.length
        · have hjI : (j : Int) < (l.length : Int) := by omega
          obtain ⟨x, hx⟩ := get_of_lt hjl
          obtain ⟨rfl, hxc⟩ := HS3.out wi hb j x hx
          have HX : Hid (l[j]? = some x) := hx
          have HXC : Hid (∀ w', Below wo.heap.size wo w' → InsC w' b3 (off3 + j * 5) x) := fun w' hb' => (HS3.out w' hb' j x hx).2
          clear hx hxc
          -- one more instruction, onto what there is
          by_cases hj0 : j = 0
          · subst hj0
            have hE : Hid (wv (l.take 1) = [x]) := by unfold Hid; rw [take_snoc HX.out]; rfl
            have hxc := HXC.out wi hb
            rw [Nat.zero_mul, Nat.add_zero] at hxc
            obtain ⟨x0, x1, x2, x3, x4⟩ := hxc
            have HO' : Hid (wi.ownsRow wo.heap.size 37 5 (.slice a5 0 cap5) 0 []) := HO.out
            go_wp2_with (at_builtin; refine append_new _ rfl (.tmp 35) (.tmp 44) 34 rfl wo.heap.size 37 i5 (.agg #[.int .i64 0, .int .i64 0, .int .i64 0, .int .i64 0, .int .i64 0]) 5 40 Try.underlying34 HI5.out.1 HI5.out.2.1 HI5.out.2.2.1 HI5.out.2.2.2 rfl (by decide) (.slice a5 0 cap5) 0 [] rfl (HO'.out.alloc _) (some ⟨wi.heap.size, 0, none⟩) 1 1 (insV x) rfl (fun h => by cases h) rfl (fun ad had => by cases had; exact new_many rfl) (by simp [Value.oneCell', insV]) (by unfold maxLen; omega) (by omega) (by simp; omega) ?_)
            intro V8 w8 hown8 hgrow8 hap8
            have hb8 : Below wo.heap.size wo w8 := grown_below hb hgrow8 fun b hb' => (HO'.out.lt b hb').1
            have HO8 : Hid (w8.ownsRow wo.heap.size 37 5 V8 (wv (l.take 1)).length ((wv (l.take 1)).flatMap insV)) := by
              unfold Hid
              rw [hE.out]
              simpa using hown8
            obtain ⟨a8, c8, hf8⟩ := own_form1' hown8
            subst hf8
            clear hown8 hgrow8 hap8 HO HO' x0 x1 x2 x3 x4 b1 c1 hwl
            go_wp2_with fail
            go_roundw
            case measure => simp [intOf]; omega
            case rel => exact ⟨1, by omega, by go_num, HO8.out, hb8⟩
          · have hj0I : (0 : Int) < (j : Int) := by omega
            have hE : Hid (wv (l.take (j + 1)) = wv (l.take j) ++ [fenF] ++ [x]) := by unfold Hid; rw [take_snoc HX.out, wv_snoc (fun e => by have := congrArg List.length e; rw [List.length_take, Nat.min_eq_left hj] at this; simp at this; omega)]
            have HO' : Hid (wi.ownsRow wo.heap.size 37 5 (.slice a5 (2 * j - 1) cap5) (2 * j - 1) ((wv (l.take j)).flatMap insV)) := HO.out
            generalize hn : 2 * j - 1 = n at *
            have HNJ : Hid (n + 1 = 2 * j) := by unfold Hid; omega
            have hnb : n ≤ 2000000000000 := by omega
            clear hn
            go_wp2_with (at_builtin; refine append_new _ rfl (.tmp 31) (.tmp 33) 34 rfl wo.heap.size 37 i5 (.agg #[.int .i64 0, .int .i64 0, .int .i64 0, .int .i64 0, .int .i64 0]) 5 40 Try.underlying34 HI5.out.1 HI5.out.2.1 HI5.out.2.2.1 HI5.out.2.2.2 rfl (by decide) (.slice a5 n cap5) n ((wv (l.take j)).flatMap insV) rfl (HO'.out.alloc _) (some ⟨wi.heap.size, 0, none⟩) 1 1 (insV fenF) rfl (fun h => by cases h) rfl (fun ad had => by cases had; exact new_many rfl) (by simp [Value.oneCell', insV]) (by unfold maxLen; omega) (by omega) (by simp; omega) ?_)
            intro V7 w7 hown7 hgrow7 hap7
            have hb7 : Below wo.heap.size wo w7 := grown_below hb hgrow7 fun b hb' => (HO'.out.lt b hb').1
            have HO7 : Hid (w7.ownsRow wo.heap.size 37 5 V7 (n + 1) ((wv (l.take j)).flatMap insV ++ insV fenF)) := hown7
            obtain ⟨a7, c7, hf7⟩ := own_form1' hown7
            subst hf7
            have hs7 := hb7.size
            clear hown7 hgrow7 hap7 HO HO' b1 c1 hwl
            have b1 := keep_cell hb7 b0
            have c1 := keep_cell hb7 c0
            obtain ⟨x0, x1, x2, x3, x4⟩ := HXC.out w7 hb7
            go_wp2_with (at_builtin; refine append_new _ rfl (.tmp 35) (.tmp 44) 34 rfl wo.heap.size 37 i5 (.agg #[.int .i64 0, .int .i64 0, .int .i64 0, .int .i64 0, .int .i64 0]) 5 40 Try.underlying34 HI5.out.1 HI5.out.2.1 HI5.out.2.2.1 HI5.out.2.2.2 rfl (by decide) (.slice a7 (n + 1) c7) (n + 1) ((wv (l.take j)).flatMap insV ++ insV fenF) rfl (HO7.out.alloc _) (some ⟨w7.heap.size, 0, none⟩) 1 1 (insV x) rfl (fun h => by cases h) rfl (fun ad had => by cases had; exact new_many rfl) (by simp [Value.oneCell', insV]) (by unfold maxLen; omega) (by omega) (by simp; omega) ?_)
            intro V8 w8 hown8 hgrow8 hap8
            have hb8 : Below wo.heap.size wo w8 := grown_below hb7 hgrow8 fun b hb' => (HO7.out.lt b hb').1
            have HO8 : Hid (w8.ownsRow wo.heap.size 37 5 V8 (wv (l.take (j + 1))).length ((wv (l.take (j + 1))).flatMap insV)) := by
              unfold Hid
              have e1 : (wv (l.take (j + 1))).length = n + 1 + 1 := by rw [wv_len, List.length_take, Nat.min_eq_left (by omega)]; have := HNJ.out; omega
              rw [e1, hE.out, ins_snoc, ins_snoc, List.append_assoc]
              exact hown8
            obtain ⟨a8, c8, hf8⟩ := own_form1' hown8
            subst hf8
            clear hown8 hgrow8 hap8 HO7 x0 x1 x2 x3 x4 b1 c1
            go_wp2_with fail
            go_roundw
            case measure => simp [intOf]; omega
            case rel => exact ⟨j + 1, by omega, by go_num, HO8.out, hb8⟩
        · have hjI : ¬ (j : Int) < (l.length : Int) := by omega
          obtain rfl : j = l.length := by omega
          rw [List.take_length] at HO
          have hwl2 : (wv l).length = 2 * l.length - 1 := wv_len l
          have HSi : Hid (FS w wi #[.slice (some ⟨b, off, none⟩) T.length cap, .bool fa, .slice aoc c.length capc] fa (.slice aoc c.length capc) V ((T.take k).map wv) vs) := HS.out.keep hb
          have hs3' : w.heap.size + 3 ≤ wo.heap.size := by have := heap_lt HS.out.c; omega
          have HU : Hid (wi.ownsRow (w.heap.size + 3) 37 5 (.slice a5 (2 * l.length - 1) cap5) (wv l).length ((wv l).flatMap insV)) := by rw [← hwl2] at HO ⊢; exact own_base HO.out hs3'
          obtain ⟨aV, capV, hfV⟩ := own_form1' HSi.out.own
          have hml : ((T.take k).map wv).length = k := by rw [List.length_map, List.length_take, Nat.min_eq_left hk]
          rw [hml] at hfV
          subst hfV
          obtain ⟨_, ⟨f0, f1, f2⟩, _⟩ := HSi.out.cells
          have HOW : Hid (wi.ownsRow (w.heap.size + 3) 34 1 (.slice aV k capV) k vs) := by have := HSi.out.own; rw [hml] at this; exact this
          have ht0 := HT0.out
          generalize 2 * l.length - 1 = n at *
          clear HO hwl
          go_wp2_with (at_builtin; refine append_new _ rfl (.tmp 47) (.tmp 49) 22 rfl (w.heap.size + 3) 34 i1 (.slice none 0 0) 1 24 Try.underlying22 HI1.out.1 HI1.out.2.1 HI1.out.2.2.1 HI1.out.2.2.2 rfl (by decide) (.slice aV k capV) k vs rfl (HOW.out.alloc _) (some ⟨wi.heap.size, 0, none⟩) 1 1 [.slice a5 n cap5] rfl (fun h => by cases h) rfl (fun ad had => by cases had; exact new_one rfl) (by simp [Value.oneCell']) (by unfold maxLen; omega) (by omega) (by simp; omega) ?_)
          intro V2 w2 hown2 hgrow2 hap2
          obtain ⟨aW, capW, hfW⟩ := own_form1' hown2
          subst hfW
          have HQ : Hid (FS w (w2.setCell ⟨w.heap.size + 2, 0, none⟩ (.slice aW (k + 1) capW)) #[.slice (some ⟨b, off, none⟩) T.length cap, .bool fa, .slice aoc c.length capc] fa (.slice aoc c.length capc) (.slice aW (k + 1) capW) ((T.take (k + 1)).map wv) (vs ++ [.slice a5 n cap5]) ∧ w2.heap[w.heap.size + 2]? = some (.cells #[.slice aV k capV, .bool fa, .slice aoc c.length capc] 25 (0, 0))) := by
            have := HSi.out.step HU.out (by rw [hml]; exact hown2) hgrow2
            rw [take_snoc HL.out, List.map_append]
            exact this
          have y0 : w2.cell? ⟨w.heap.size + 2, 0, none⟩ = some (.slice aV k capV) := by rw [cell_of_row _ _ 0 _ _ _ HQ.out.2]; rfl
          have y1 : w2.frozen? ⟨w.heap.size + 2, 0, none⟩ = false := by simp [World.frozen?, HQ.out.2]
          clear hown2 hgrow2 hap2 HOW HU HSi f0 f1 f2
          go_wp2_with fail
          go_roundw
          case measure => simp [intOf]; omega
          case rel => exact ⟨k + 1, _, _, by omega, by go_num, HQ.out.1⟩
    · have hkI : ¬ (k : Int) < (T.length : Int) := by omega
      obtain rfl : k = T.length := by omega
      rw [List.take_length] at HS
      obtain ⟨aV, capV, hfV⟩ := own_form1' HS.out.own
      rw [List.length_map] at hfV
      subst hfV
      obtain ⟨_, ⟨f0, f1, f2⟩, ⟨r0, r1, r2⟩, rq⟩ := HS.out.cells
      have q0 := rq 0
      have q1 := rq 1
      have q2 := rq 2
      clear rq
      have HVT : Hid (∀ w' : World, (∀ b : Nat, w.heap.size + 3 ≤ b → w'.heap[b]? = wo.heap[b]?) → ThrAt w' (.slice aV T.length capV) (T.map wv)) := fun w' hs => HS.out.done (by rw [List.length_map]; exact HT0.out) (fun l hl => by obtain ⟨m, hm, rfl⟩ := List.mem_map.1 hl; have := HSM.out m hm; rw [wv_len]; omega) hs
      have hbo := HS.out.below
      clear HS
      go_wp2_with fail
      have hs : ∀ x : Nat, x ≠ w.heap.size + 1 → (((wo.setCell ⟨w.heap.size + 1, 0, none⟩ (.slice aV T.length capV)).setCell ⟨w.heap.size + 1, 1, none⟩ (.bool fa)).setCell ⟨w.heap.size + 1, 2, none⟩ (.slice aoc c.length capc)).heap[x]? = wo.heap[x]? := by
        intro x h2
        rw [Below.heap_setCell _ _ _ _ h2, Below.heap_setCell _ _ _ _ h2, Below.heap_setCell _ _ _ _ h2]
      have hbf : Below w.heap.size w (((wo.setCell ⟨w.heap.size + 1, 0, none⟩ (.slice aV T.length capV)).setCell ⟨w.heap.size + 1, 1, none⟩ (.bool fa)).setCell ⟨w.heap.size + 1, 2, none⟩ (.slice aoc c.length capc)) := ((hbo.setCell (by simp) _).setCell (by simp) _).setCell (by simp) _
      exact bodyPost_ret (v := .agg #[.slice aV T.length capV, .bool fa, .slice aoc c.length capc]) (by simp [results, Try.results10, go_sem, *]) rfl ⟨_, rfl, ⟨rfl, HVT.out _ (fun x hx => hs x (by omega)), HVC.out.keep hbf⟩, hbf⟩

end Go.Proofs.Ytomijmikkbhgmab

namespace Go.Proofs.Ytomijmikkbhgmab
open Go.RowKit

set_option maxRecDepth 20000 in
set_option maxHeartbeats 4000000 in
theorem singleK_any (T : List (List Ins)) (fa : Bool) (c : List Atm) (d : Nat) (hd : d < 3) (vt vc : Value) (w : World) (h : TestAt w (.agg #[vt, .bool fa, vc]) T fa c vt vc) :
    Calls Try.prog 11 #[.agg #[vt, .bool fa, vc], .int .i64 d] w fun e w' => ∃ vt', e = .returned (.agg #[vt', .bool fa, vc]) ∧ TestAt w' (.agg #[vt', .bool fa, vc]) (T.map (sg d)) fa c vt' vc ∧ Below w.heap.size w w' := by
  obtain ⟨i5, hi5, hy0, hy1, hy2⟩ := info_parts Try.infoInstr
  have HI5 : Hid (Try.prog.info? 37 = some i5 ∧ i5.zero = some (.agg #[.int .i64 0, .int .i64 0, .int .i64 0, .int .i64 0, .int .i64 0]) ∧ i5.size = 5 ∧ i5.bytes = 40) := ⟨hi5, hy0, hy1, hy2⟩
  obtain ⟨i1, hi1, hx0, hx1, hx2⟩ := info_parts Try.infoInstrs
  have HI1 : Hid (Try.prog.info? 34 = some i1 ∧ i1.zero = some (.slice none 0 0) ∧ i1.size = 1 ∧ i1.bytes = 24) := ⟨hi1, hx0, hx1, hx2⟩
  clear hi5 hy0 hy1 hy2 hi1 hx0 hx1 hx2
  obtain ⟨ht0, ao, b, off, cap, htv, hta, _, htc⟩ := h.ht.opened
  have HVC : Hid (AtmAt w vc c) := h.hc
  obtain ⟨hc0, aoc, bc, offc, capc, hsc⟩ := h.hc
  have hcv := hsc.hv
  subst htv hcv
  have HTC : Hid (∀ k l, T[k]? = some l → ∃ ao2 cap2, w.cell? ⟨b, off + k, none⟩ = some (.slice ao2 l.length cap2) ∧ InsAt w (.slice ao2 l.length cap2) l) := fun k l hk => by obtain ⟨_, ao2, cap2, q1, q2⟩ := htc k l hk; exact ⟨ao2, cap2, q1, q2⟩
  have HSM : Hid (∀ l ∈ T, l.length * 40 ≤ 140737488351232) := fun l hl => by obtain ⟨k, hk⟩ := List.getElem?_of_mem hl; obtain ⟨_, _, _, _, q⟩ := htc k l hk; exact q.1
  have HT0 : Hid (T.length * 24 ≤ 140737488351232) := ht0
  clear h hsc htc
  go_enter Try.func11, Try.ntmps11
  go_wp2_with fail
  have HS0 : Hid (FS w _ _ fa (.slice aoc c.length capc) (.slice none 0 0) [] []) := fs_init w (.slice ao T.length cap) (.slice aoc c.length capc) fa
  generalize ((w.alloc (.cells #[.slice ao T.length cap, .bool fa, .slice aoc c.length capc] 25)).alloc (.cells #[.slice none 0 0, .bool false, .slice none 0 0] 25)).alloc (.cells #[.slice none 0 0, .bool fa, .slice aoc c.length capc] 25) = w0 at *
  have e11 : w.heap.size + 1 + 1 = w.heap.size + 2 := rfl
  rw [e11]
  clear e11
  go_loopw [6] (fun i wr => ∃ (k : Nat) (V : Value) (vs : List Value), k ≤ T.length ∧ i = .int .i64 k ∧ Hid (FS w wr #[.slice ao T.length cap, .bool fa, .slice aoc c.length capc] fa (.slice aoc c.length capc) V ((T.take k).map (sg d)) vs)) (fun i _ => T.length - (intOf i).toNat)
  case atStart => exact ⟨0, _, [], Nat.zero_le _, rfl, HS0.out⟩
  case round =>
    clear HS0
    obtain ⟨wo, hwo⟩ : ∃ x, x = wr := ⟨_, rfl⟩
    rw [← hwo] at hrel ⊢
    clear hwo
    obtain ⟨k, V, vs, hk, rfl, HS⟩ := hrel
    have b0 : wo.cell? ⟨w.heap.size, 0, none⟩ = some (.slice ao T.length cap) := by rw [HS.out.cells.1]; rfl
    by_cases hlt : k < T.length
    · have hkI : (k : Int) < (T.length : Int) := by omega
      obtain ⟨l, hl⟩ := get_of_lt hlt
      obtain rfl := hta (ne_nil hlt)
      obtain ⟨ao2, cap2, c00, hil⟩ := HTC.out k l hl
      have c0 := keep_cell HS.out.below c00
      obtain ⟨hl40, ao3, b3, off3, cap3, hs3⟩ := hil.keep HS.out.below
      have hv3 := hs3.hv
      simp only [Value.slice.injEq] at hv3
      obtain ⟨rfl, -, rfl⟩ := hv3
      have HS3 : Hid (∀ w', Below wo.heap.size wo w' → ∀ j x, l[j]? = some x → ao2 = some ⟨b3, off3, none⟩ ∧ InsC w' b3 (off3 + j * 5) x) := fun w' hb j x hj => ⟨hs3.ha (ne_nil (List.getElem?_eq_some_iff.1 hj).1), insC_keeps _ _ _ _ _ hb (hs3.hc j x hj)⟩
      have hlsm := HSM.out l (List.mem_of_getElem? hl)
      have hdI : (d : Int) < 3 := by omega
      have HL : Hid (T[k]? = some l) := hl
      have hso := HS.out.below.size
      clear hl c00 hil hs3
      go_wp2_with fail
      go_loopw [7, 8] (fun x y wi => ∃ j : Nat, j ≤ l.length ∧ y = .int .i64 j ∧ Hid (wi.ownsRow wo.heap.size 37 5 x (sg d (l.take j)).length ((sg d (l.take j)).flatMap insV)) ∧ Below wo.heap.size wo wi) (fun _ y _ => l.length - (intOf y).toNat)
      case atStart => exact ⟨0, Nat.zero_le _, rfl, World.ownsRow_nil _ _ _ _, Below.refl _ _⟩
      case round =>
        obtain ⟨wi, hwi⟩ : ∃ x, x = wr := ⟨_, rfl⟩
        rw [← hwi] at hrel ⊢
        clear hwi
        obtain ⟨j, hj, rfl, HO, hb⟩ := hrel
        have b1 := keep_cell hb b0
        have c1 := keep_cell hb c0
        obtain ⟨a5, cap5, hf5⟩ := own_form1' HO.out
        subst hf5
        have hwl : (sg d (l.take j)).length ≤ j := by have := sg_len d (l.take j); rw [List.length_take, Nat.min_eq_left hj] at this; exact this
        generalize hn : (sg d (l.take j)).length = n at *
        have HN : Hid ((sg d (l.take j)).length = n) := hn
        clear hn
        have hsi := hb.size
        by_cases hjl : j < l.length
        · have hjI : (j : Int) < (l.length : Int) := by omega
          obtain ⟨x, hx⟩ := get_of_lt hjl
          obtain ⟨rfl, hxc⟩ := HS3.out wi hb j x hx
          have HX : Hid (l[j]? = some x) := hx
          obtain ⟨x0, x1, x2, x3, x4⟩ := hxc
          clear hx
          go_upto_region 10 with fail
          have hb45 := below_alloc wi (.cells #[.int .i64 x.op, .int .i64 x.loc, .int .i64 x.reg, .int .i64 x.val, .int .i64 x.mode] 37)
          have hblk : (wi.alloc (.cells #[.int .i64 x.op, .int .i64 x.loc, .int .i64 x.reg, .int .i64 x.val, .int .i64 x.mode] 37)).heap[wi.heap.size]? = some (.cells #[.int .i64 x.op, .int .i64 x.loc, .int .i64 x.reg, .int .i64 x.val, .int .i64 x.mode] 37 (0, 0)) := heap_alloc_new wi _
          have HO5 : Hid ((wi.alloc (.cells #[.int .i64 x.op, .int .i64 x.loc, .int .i64 x.reg, .int .i64 x.val, .int .i64 x.mode] 37)).ownsRow wo.heap.size 37 5 (.slice a5 n cap5) n ((sg d (l.take j)).flatMap insV)) := HO.out.alloc _
          have hb5 := below_more hb hb45
          have hgB : ∀ g, (Value.slice a5 n cap5).ownBlock = some g → g ≠ wi.heap.size := fun g hg => by have := (HO.out.lt g hg).2; omega
          obtain ⟨B, hB⟩ : ∃ B, B = wi.heap.size := ⟨_, rfl⟩
          rw [← hB] at hblk hgB ⊢
          have hBo : wo.heap.size ≤ B := by omega
          obtain ⟨w5, hw5⟩ : ∃ x', x' = wi.alloc (.cells #[.int .i64 x.op, .int .i64 x.loc, .int .i64 x.reg, .int .i64 x.val, .int .i64 x.mode] 37) := ⟨_, rfl⟩
          rw [← hw5] at hblk HO5 hb5 ⊢
          have hB5 : B < w5.heap.size := heap_lt hblk
          clear hw5 hb45 HO hb x0 x1 x2 x3 x4 b1 c1 hB
          have b1 := keep_cell hb5 b0
          have c1 := keep_cell hb5 c0
          have z0 : w5.cell? ⟨B, 0, none⟩ = some (.int .i64 x.op) := by rw [cell_of_row _ _ 0 _ _ _ hblk]; rfl
          have z1 : w5.cell? ⟨B, 1, none⟩ = some (.int .i64 x.loc) := by rw [cell_of_row _ _ 1 _ _ _ hblk]; rfl
          have z2 : w5.cell? ⟨B, 2, none⟩ = some (.int .i64 x.reg) := by rw [cell_of_row _ _ 2 _ _ _ hblk]; rfl
          have z3 : w5.cell? ⟨B, 3, none⟩ = some (.int .i64 x.val) := by rw [cell_of_row _ _ 3 _ _ _ hblk]; rfl
          have z4 : w5.cell? ⟨B, 4, none⟩ = some (.int .i64 x.mode) := by rw [cell_of_row _ _ 4 _ _ _ hblk]; rfl
          have zf : w5.frozen? ⟨B, 1, none⟩ = false := by simp [World.frozen?, hblk]
          by_cases h5 : x.op < 5
          · have h5I : ¬ (5 : Int) ≤ x.op := by omega
            have hE : Hid (sg d (l.take (j + 1)) = sg d (l.take j) ++ [sgI d x]) := by unfold Hid; rw [take_snoc HX.out, sg_snoc_in d _ h5]
            by_cases h03 : 0 ≤ x.op ∧ x.op ≤ 3
            · obtain ⟨h0, h3⟩ := h03
              have HG : Hid (sgI (d : Int) x = { x with loc := (d : Int) }) := by unfold Hid sgI; rw [if_pos ⟨h0, h3⟩]
              have HO6 : Hid ((w5.setCell ⟨B, 1, none⟩ (.int .i64 (d : Int))).ownsRow wo.heap.size 37 5 (.slice a5 n cap5) n ((sg d (l.take j)).flatMap insV)) := own_other HO5.out fun b hb' => Below.heap_setCell _ _ _ _ (hgB b hb')
              have hblk6 := heap_setCell_same w5 B 1 _ _ (.int .i64 (d : Int)) hblk
              have hb6 : Below wo.heap.size wo (w5.setCell ⟨B, 1, none⟩ (.int .i64 (d : Int))) := hb5.setCell (by show wo.heap.size ≤ B; exact hBo) _
              have hsz6 : w5.heap.size ≤ (w5.setCell ⟨B, 1, none⟩ (.int .i64 (d : Int))).heap.size := by simp [World.setCell]
              go_upto_region 13 with fail
              obtain ⟨w6, hw6⟩ : ∃ x', x' = w5.setCell ⟨B, 1, none⟩ (.int .i64 (d : Int)) := ⟨_, rfl⟩
              rw [← hw6] at HO6 hblk6 hb6 hsz6 ⊢
              clear hw6 hblk HO5 hb5 z0 z1 z2 z3 z4 zf b1 c1
              have b1 := keep_cell hb6 b0
              have c1 := keep_cell hb6 c0
              have z0 : w6.cell? ⟨B, 0, none⟩ = some (.int .i64 x.op) := by rw [cell_of_row _ _ 0 _ _ _ hblk6]; rfl
              have z1 : w6.cell? ⟨B, 1, none⟩ = some (.int .i64 (d : Int)) := by rw [cell_of_row _ _ 1 _ _ _ hblk6]; rfl
              have z2 : w6.cell? ⟨B, 2, none⟩ = some (.int .i64 x.reg) := by rw [cell_of_row _ _ 2 _ _ _ hblk6]; rfl
              have z3 : w6.cell? ⟨B, 3, none⟩ = some (.int .i64 x.val) := by rw [cell_of_row _ _ 3 _ _ _ hblk6]; rfl
              have z4 : w6.cell? ⟨B, 4, none⟩ = some (.int .i64 x.mode) := by rw [cell_of_row _ _ 4 _ _ _ hblk6]; rfl
              clear hblk6
              go_wp2_with (at_builtin; refine append_new _ rfl (.tmp 53) (.tmp 55) 34 rfl wo.heap.size 37 i5 (.agg #[.int .i64 0, .int .i64 0, .int .i64 0, .int .i64 0, .int .i64 0]) 5 40 Try.underlying34 HI5.out.1 HI5.out.2.1 HI5.out.2.2.1 HI5.out.2.2.2 rfl (by decide) (.slice a5 n cap5) n ((sg d (l.take j)).flatMap insV) rfl (HO6.out.alloc _) (some ⟨w6.heap.size, 0, none⟩) 1 1 (insV { x with loc := (d : Int) }) rfl (fun h => by cases h) rfl (fun ad had => by cases had; exact new_many rfl) (by simp [Value.oneCell', insV]) (by unfold maxLen; omega) (by omega) (by simp; omega) ?_)
              intro V8 w8 hown8 hgrow8 hap8
              have hb8 : Below wo.heap.size wo w8 := grown_below hb6 hgrow8 fun b hb' => (HO6.out.lt b hb').1
              have HO8 : Hid (w8.ownsRow wo.heap.size 37 5 V8 (sg d (l.take (j + 1))).length ((sg d (l.take (j + 1))).flatMap insV)) := by
                unfold Hid
                rw [hE.out, ins_snoc, List.length_append, HN.out, HG.out]
                exact hown8
              obtain ⟨a8, c8, hf8⟩ := own_form1' hown8
              have HF8 : Hid ((sg d (l.take (j + 1))).length = n + 1) := by unfold Hid; rw [hE.out, List.length_append, HN.out]; rfl
              subst hf8
              clear hown8 hgrow8 hap8 HO6 z0 z1 z2 z3 z4 b1 c1
              go_wp2_with fail
              go_roundw
              case measure => simp [intOf]; omega
              case rel => exact ⟨j + 1, by omega, by go_num, HO8.out, hb8⟩
            · have HG : Hid (sgI (d : Int) x = x) := by unfold Hid sgI; rw [if_neg h03]
              clear hblk
              by_cases h0 : 0 ≤ x.op
              · have h3 : ¬ x.op ≤ 3 := fun q => h03 ⟨h0, q⟩
                go_wp2_with (at_builtin; refine append_new _ rfl (.tmp 53) (.tmp 55) 34 rfl wo.heap.size 37 i5 (.agg #[.int .i64 0, .int .i64 0, .int .i64 0, .int .i64 0, .int .i64 0]) 5 40 Try.underlying34 HI5.out.1 HI5.out.2.1 HI5.out.2.2.1 HI5.out.2.2.2 rfl (by decide) (.slice a5 n cap5) n ((sg d (l.take j)).flatMap insV) rfl (HO5.out.alloc _) (some ⟨w5.heap.size, 0, none⟩) 1 1 (insV x) rfl (fun h => by cases h) rfl (fun ad had => by cases had; exact new_many rfl) (by simp [Value.oneCell', insV]) (by unfold maxLen; omega) (by omega) (by simp; omega) ?_)
                intro V8 w8 hown8 hgrow8 hap8
                have hb8 : Below wo.heap.size wo w8 := grown_below hb5 hgrow8 fun b hb' => (HO5.out.lt b hb').1
                have HO8 : Hid (w8.ownsRow wo.heap.size 37 5 V8 (sg d (l.take (j + 1))).length ((sg d (l.take (j + 1))).flatMap insV)) := by
                  unfold Hid
                  rw [hE.out, ins_snoc, List.length_append, HN.out, HG.out]
                  exact hown8
                obtain ⟨a8, c8, hf8⟩ := own_form1' hown8
                have HF8 : Hid ((sg d (l.take (j + 1))).length = n + 1) := by unfold Hid; rw [hE.out, List.length_append, HN.out]; rfl
                subst hf8
                clear hown8 hgrow8 hap8 HO5 z0 z1 z2 z3 z4 b1 c1
                go_wp2_with fail
                go_roundw
                case measure => simp [intOf]; omega
                case rel => exact ⟨j + 1, by omega, by go_num, HO8.out, hb8⟩
              · go_wp2_with (at_builtin; refine append_new _ rfl (.tmp 53) (.tmp 55) 34 rfl wo.heap.size 37 i5 (.agg #[.int .i64 0, .int .i64 0, .int .i64 0, .int .i64 0, .int .i64 0]) 5 40 Try.underlying34 HI5.out.1 HI5.out.2.1 HI5.out.2.2.1 HI5.out.2.2.2 rfl (by decide) (.slice a5 n cap5) n ((sg d (l.take j)).flatMap insV) rfl (HO5.out.alloc _) (some ⟨w5.heap.size, 0, none⟩) 1 1 (insV x) rfl (fun h => by cases h) rfl (fun ad had => by cases had; exact new_many rfl) (by simp [Value.oneCell', insV]) (by unfold maxLen; omega) (by omega) (by simp; omega) ?_)
                intro V8 w8 hown8 hgrow8 hap8
                have hb8 : Below wo.heap.size wo w8 := grown_below hb5 hgrow8 fun b hb' => (HO5.out.lt b hb').1
                have HO8 : Hid (w8.ownsRow wo.heap.size 37 5 V8 (sg d (l.take (j + 1))).length ((sg d (l.take (j + 1))).flatMap insV)) := by
                  unfold Hid
                  rw [hE.out, ins_snoc, List.length_append, HN.out, HG.out]
                  exact hown8
                obtain ⟨a8, c8, hf8⟩ := own_form1' hown8
                have HF8 : Hid ((sg d (l.take (j + 1))).length = n + 1) := by unfold Hid; rw [hE.out, List.length_append, HN.out]; rfl
                subst hf8
                clear hown8 hgrow8 hap8 HO5 z0 z1 z2 z3 z4 b1 c1
                go_wp2_with fail
                go_roundw
                case measure => simp [intOf]; omega
                case rel => exact ⟨j + 1, by omega, by go_num, HO8.out, hb8⟩
          · have h5I : (5 : Int) ≤ x.op := by omega
            have hE : Hid (sg d (l.take (j + 1)) = sg d (l.take j)) := by unfold Hid; rw [take_snoc HX.out, sg_snoc_out d _ h5]
            have HO8 : Hid (w5.ownsRow wo.heap.size 37 5 (.slice a5 n cap5) (sg d (l.take (j + 1))).length ((sg d (l.take (j + 1))).flatMap insV)) := by
              unfold Hid
              rw [hE.out, HN.out]
              exact HO5.out
            clear hblk HO5
            go_wp2_with fail
            go_roundw
            case measure => simp [intOf]; omega
            case rel => exact ⟨j + 1, by omega, by go_num, HO8.out, hb5⟩
        · have hjI : ¬ (j : Int) < (l.length : Int) := by omega
          obtain rfl : j = l.length := by omega
          rw [List.take_length] at HN HO
          have HSi : Hid (FS w wi #[.slice (some ⟨b, off, none⟩) T.length cap, .bool fa, .slice aoc c.length capc] fa (.slice aoc c.length capc) V ((T.take k).map (sg d)) vs) := HS.out.keep hb
          have hs3' : w.heap.size + 3 ≤ wo.heap.size := by have := heap_lt HS.out.c; omega
          have HU : Hid (wi.ownsRow (w.heap.size + 3) 37 5 (.slice a5 n cap5) (sg d l).length ((sg d l).flatMap insV)) := by unfold Hid; rw [HN.out]; exact own_base HO.out hs3'
          obtain ⟨aV, capV, hfV⟩ := own_form1' HSi.out.own
          have hml : ((T.take k).map (sg d)).length = k := by rw [List.length_map, List.length_take, Nat.min_eq_left hk]
          rw [hml] at hfV
          subst hfV
          obtain ⟨_, ⟨f0, f1, f2⟩, _⟩ := HSi.out.cells
          have HOW : Hid (wi.ownsRow (w.heap.size + 3) 34 1 (.slice aV k capV) k vs) := by have := HSi.out.own; rw [hml] at this; exact this
          have ht0 := HT0.out
          clear HO hwl
          go_wp2_with (at_builtin; refine append_new _ rfl (.tmp 58) (.tmp 60) 22 rfl (w.heap.size + 3) 34 i1 (.slice none 0 0) 1 24 Try.underlying22 HI1.out.1 HI1.out.2.1 HI1.out.2.2.1 HI1.out.2.2.2 rfl (by decide) (.slice aV k capV) k vs rfl (HOW.out.alloc _) (some ⟨wi.heap.size, 0, none⟩) 1 1 [.slice a5 n cap5] rfl (fun h => by cases h) rfl (fun ad had => by cases had; exact new_one rfl) (by simp [Value.oneCell']) (by unfold maxLen; omega) (by omega) (by simp; omega) ?_)
          intro V2 w2 hown2 hgrow2 hap2
          obtain ⟨aW, capW, hfW⟩ := own_form1' hown2
          subst hfW
          have HQ : Hid (FS w (w2.setCell ⟨w.heap.size + 2, 0, none⟩ (.slice aW (k + 1) capW)) #[.slice (some ⟨b, off, none⟩) T.length cap, .bool fa, .slice aoc c.length capc] fa (.slice aoc c.length capc) (.slice aW (k + 1) capW) ((T.take (k + 1)).map (sg d)) (vs ++ [.slice a5 n cap5]) ∧ w2.heap[w.heap.size + 2]? = some (.cells #[.slice aV k capV, .bool fa, .slice aoc c.length capc] 25 (0, 0))) := by
            have := HSi.out.step HU.out (by rw [hml]; exact hown2) hgrow2
            rw [take_snoc HL.out, List.map_append]
            exact this
          have y0 : w2.cell? ⟨w.heap.size + 2, 0, none⟩ = some (.slice aV k capV) := by rw [cell_of_row _ _ 0 _ _ _ HQ.out.2]; rfl
          have y1 : w2.frozen? ⟨w.heap.size + 2, 0, none⟩ = false := by simp [World.frozen?, HQ.out.2]
          clear hown2 hgrow2 hap2 HOW HU HSi f0 f1 f2
          go_wp2_with fail
          go_roundw
          case measure => simp [intOf]; omega
          case rel => exact ⟨k + 1, _, _, by omega, by go_num, HQ.out.1⟩
    · have hkI : ¬ (k : Int) < (T.length : Int) := by omega
      obtain rfl : k = T.length := by omega
      rw [List.take_length] at HS
      obtain ⟨aV, capV, hfV⟩ := own_form1' HS.out.own
      rw [List.length_map] at hfV
      subst hfV
      obtain ⟨_, ⟨f0, f1, f2⟩, ⟨r0, r1, r2⟩, rq⟩ := HS.out.cells
      have q0 := rq 0
      have q1 := rq 1
      have q2 := rq 2
      clear rq
      have HVT : Hid (∀ w' : World, (∀ b : Nat, w.heap.size + 3 ≤ b → w'.heap[b]? = wo.heap[b]?) → ThrAt w' (.slice aV T.length capV) (T.map (sg d))) := fun w' hs => HS.out.done (by rw [List.length_map]; exact HT0.out) (fun l hl => by obtain ⟨m, hm, rfl⟩ := List.mem_map.1 hl; have := HSM.out m hm; have := sg_len d m; omega) hs
      have hbo := HS.out.below
      clear HS
      go_wp2_with fail
      have hs : ∀ x : Nat, x ≠ w.heap.size + 1 → (((wo.setCell ⟨w.heap.size + 1, 0, none⟩ (.slice aV T.length capV)).setCell ⟨w.heap.size + 1, 1, none⟩ (.bool fa)).setCell ⟨w.heap.size + 1, 2, none⟩ (.slice aoc c.length capc)).heap[x]? = wo.heap[x]? := by
        intro x h2
        rw [Below.heap_setCell _ _ _ _ h2, Below.heap_setCell _ _ _ _ h2, Below.heap_setCell _ _ _ _ h2]
      have hbf : Below w.heap.size w (((wo.setCell ⟨w.heap.size + 1, 0, none⟩ (.slice aV T.length capV)).setCell ⟨w.heap.size + 1, 1, none⟩ (.bool fa)).setCell ⟨w.heap.size + 1, 2, none⟩ (.slice aoc c.length capc)) := ((hbo.setCell (by simp) _).setCell (by simp) _).setCell (by simp) _
      exact bodyPost_ret (v := .agg #[.slice aV T.length capV, .bool fa, .slice aoc c.length capc]) (by simp [results, Try.results11, go_sem, *]) rfl ⟨_, rfl, ⟨rfl, HVT.out _ (fun x hx => hs x (by omega)), HVC.out.keep hbf⟩, hbf⟩

end Go.Proofs.Ytomijmikkbhgmab

namespace Go.Proofs.Ytomijmikkbhgmab
open Go.RowKit

set_option maxRecDepth 20000 in
set_option maxHeartbeats 1000000 in
theorem fencedL_any (T : List (List Ins)) (fa : Bool) (c : List Atm) (hsm : ∀ l ∈ T, l.length ≤ 1000000000000) (vt vc : Value) (w : World) (h : TestAt w (.agg #[vt, .bool fa, vc]) T fa c vt vc) :
    Calls Try.prog 3 #[.agg #[vt, .bool fa, vc]] w fun e w' => e = .returned (.bool true) ∧ Below w.heap.size w w' := by
  have HF : Hid (∀ w', Below w.heap.size w w' → Calls Try.prog 10 #[.agg #[vt, .bool fa, vc]] w' fun e w'' => ∃ vt', e = .returned (.agg #[vt', .bool fa, vc]) ∧ TestAt w'' (.agg #[vt', .bool fa, vc]) (T.map wv) fa c vt' vc ∧ Below w'.heap.size w' w'') := fun w' hb => fencedK_any T fa c hsm vt vc w' (h.keep hb)
  have HE : Hid (∀ (w' : World) (vt' vc' : Value), TestAt w' (.agg #[vt', .bool fa, vc']) (T.map wv) fa c vt' vc' → Calls Try.prog 9 #[.agg #[vt', .bool fa, vc']] w' fun e w'' => e = .returned (.bool true) ∧ Below w'.heap.size w' w'') := fun w' vt' vc' ht => exactly_any (T.map wv) fa c (fun hz X hx ha => fenced_turns hz (wv_fen T) hx ha) vt' vc' w' ht
  obtain ⟨ht0, aot, bt, offt, capt, htv, _⟩ := h.ht.opened
  obtain ⟨hc0, aoc, bc, offc, capc, hsc⟩ := h.hc
  have hcv := hsc.hv
  subst htv hcv
  clear h hsc hsm
  go_enter Try.func3, Try.ntmps3
  go_wp2_with fail
  have hba := below_alloc w (.cells #[.slice aot T.length capt, .bool fa, .slice aoc c.length capc] 25)
  refine (HF.out _ hba).mono ?_
  rintro e w3 ⟨vt', rfl, ht3, hb3⟩
  have hbw3 := below_more hba hb3
  have HE3 : Hid (Calls Try.prog 9 #[.agg #[vt', .bool fa, .slice aoc c.length capc]] w3 fun e w'' => e = .returned (.bool true) ∧ Below w3.heap.size w3 w'') := HE.out w3 _ _ ht3
  clear ht3
  go_wp2_with fail
  refine HE3.out.mono ?_
  rintro e w4 ⟨rfl, hb4⟩
  have hbw4 := below_more hbw3 hb4
  go_wp2_with fail
  go_ret
  exact ⟨rfl, hbw4⟩

set_option maxRecDepth 20000 in
set_option maxHeartbeats 1000000 in
theorem singleL_any (T : List (List Ins)) (fa : Bool) (c : List Atm) (n : Int) (r : -9223372036854775808 ≤ n ∧ n < 9223372036854775808) (vt vc : Value) (w : World) (h : TestAt w (.agg #[vt, .bool fa, vc]) T fa c vt vc) :
    Calls Try.prog 4 #[.agg #[vt, .bool fa, vc], .int .i64 n] w fun e w' => e = .returned (.bool true) ∧ Below w.heap.size w w' := by
  have HP : Hid (∀ w', Calls Try.prog 12 #[.int .i64 n, .int .i64 3] w' fun e w'' => ∃ r : Nat, r < 3 ∧ e = .returned (.int .i64 r) ∧ Below w'.heap.size w' w'') := fun w' => pick_any n r 3 (by omega) w'
  have HF : Hid (∀ (w' : World) (d : Nat), d < 3 → Below w.heap.size w w' → Calls Try.prog 11 #[.agg #[vt, .bool fa, vc], .int .i64 d] w' fun e w'' => ∃ vt', e = .returned (.agg #[vt', .bool fa, vc]) ∧ TestAt w'' (.agg #[vt', .bool fa, vc]) (T.map (sg d)) fa c vt' vc ∧ Below w'.heap.size w' w'') := fun w' d hd hb => singleK_any T fa c d hd vt vc w' (h.keep hb)
  have HE : Hid (∀ (w' : World) (d : Nat) (vt' vc' : Value), TestAt w' (.agg #[vt', .bool fa, vc']) (T.map (sg d)) fa c vt' vc' → Calls Try.prog 9 #[.agg #[vt', .bool fa, vc']] w' fun e w'' => e = .returned (.bool true) ∧ Below w'.heap.size w' w'') := fun w' d vt' vc' ht => exactly_any (T.map (sg d)) fa c (fun hz X hx ha => single_turns hz d (sg_events d T) hx ha) vt' vc' w' ht
  obtain ⟨ht0, aot, bt, offt, capt, htv, _⟩ := h.ht.opened
  obtain ⟨hc0, aoc, bc, offc, capc, hsc⟩ := h.hc
  have hcv := hsc.hv
  subst htv hcv
  clear h hsc r
  have hba := below_alloc w (.cells #[.slice aot T.length capt, .bool fa, .slice aoc c.length capc] 25)
  have HTC : Hid (∀ w', Below (w.alloc (.cells #[.slice aot T.length capt, .bool fa, .slice aoc c.length capc] 25)).heap.size (w.alloc (.cells #[.slice aot T.length capt, .bool fa, .slice aoc c.length capc] 25)) w' → w'.cell? ⟨w.heap.size, 0, none⟩ = some (.slice aot T.length capt) ∧ w'.cell? ⟨w.heap.size, 1, none⟩ = some (.bool fa) ∧ w'.cell? ⟨w.heap.size, 2, none⟩ = some (.slice aoc c.length capc)) := fun w' hb => ⟨keep_cell hb (by simp), keep_cell hb (by simp), keep_cell hb (by simp)⟩
  go_enter Try.func4, Try.ntmps4
  go_upto_region 1 with fail
  generalize w.alloc (.cells #[.slice aot T.length capt, .bool fa, .slice aoc c.length capc] 25) = w1 at *
  obtain ⟨t0, t1, t2⟩ := HTC.out w1 (Below.refl _ _)
  have HR1 : Hid (Below w1.heap.size w1 w1) := Below.refl _ _
  go_region_with (first
    | (go_at_call 12; refine (HP.out _).mono ?_; rintro e w6 ⟨m, hm, rfl, hb6⟩; have hb16 : Below w1.heap.size w1 w6 := below_more HR1.out.drew hb6; obtain ⟨s0, s1, s2⟩ := HTC.out w6 hb16)
    | (go_at_call 11; refine (HF.out _ m hm (below_more hba hb16)).mono ?_; rintro e w7 ⟨vt7, rfl, ht7, hb7⟩; have hb17 := below_more hb16 hb7; have HE7 : Hid (Calls Try.prog 9 #[.agg #[vt7, .bool fa, .slice aoc c.length capc]] w7 fun e w'' => e = .returned (.bool true) ∧ Below w7.heap.size w7 w'') := HE.out w7 m _ _ ht7; clear ht7)
    | (go_at_call 9; refine HE7.out.mono ?_; rintro e w8 ⟨rfl, hb8⟩; have hb18 := below_more hb17 hb8))
  all_goals
    go_wp2_with fail
    go_ret
    exact ⟨rfl, below_more hba hb18⟩

end Go.Proofs.Ytomijmikkbhgmab
