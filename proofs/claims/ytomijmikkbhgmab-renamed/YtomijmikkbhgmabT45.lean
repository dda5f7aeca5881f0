import Derived.Test.YtomijmikkbhgmabLt
import Derived.Test.YtomijmikkbhgmabT2
namespace Go.Proofs.Ytomijmikkbhgmab
open Go.RowKit

/-- The rows of the threads, each of its own. -/
structure CpRows (base : Nat) (w : World) (V : Value) (k : Nat) (T : List (List Ins)) (vs : List Value) : Prop where
  row : ∀ (j : Nat) (l : List Ins), j < k → T[j]? = some l → ∃ u, vs[j]? = some u ∧ w.ownsRow base 37 5 u l.length (l.flatMap insV) ∧ ∀ b, u.ownBlock = some b → V.ownBlock ≠ some b
  apart : ∀ (i j : Nat) (u v : Value) (b : Nat), i < j → vs[i]? = some u → vs[j]? = some v → u.ownBlock = some b → v.ownBlock ≠ some b

theorem CpRows.nil (base : Nat) (w : World) (V : Value) (T : List (List Ins)) : CpRows base w V 0 T [] := ⟨fun j l hj => by omega, fun i j u v b _ hu => by simp at hu⟩
theorem CpRows.other {base : Nat} {w w' : World} {V : Value} {k : Nat} {T : List (List Ins)} {vs : List Value} (h : CpRows base w V k T vs) (hs : ∀ b : Nat, base ≤ b → b < w.heap.size → V.ownBlock ≠ some b → w'.heap[b]? = w.heap[b]?) : CpRows base w' V k T vs := by
  refine ⟨fun j l hj hl => ?_, h.apart⟩
  obtain ⟨u, h1, h2, h3⟩ := h.row j l hj hl
  exact ⟨u, h1, own_other h2 (fun b hb => hs b (h2.lt b hb).1 (h2.lt b hb).2 (h3 b hb)), h3⟩
theorem CpRows.step {base : Nat} {w w1 w2 : World} {V V' : Value} {k : Nat} {T : List (List Ins)} {vs : List Value} (h : CpRows base w1 V k T vs) (hlen : vs.length = k) {l : List Ins} (hx : T[k]? = some l) {u : Value} {o : Obj} (_hw : w.heap.size ≤ w1.heap.size) (hold : ∀ (j : Nat) (z : Value) (b : Nat), vs[j]? = some z → z.ownBlock = some b → b < w.heap.size)
    (hu : w1.ownsRow w.heap.size 37 5 u l.length (l.flatMap insV)) (hub : ∀ b, u.ownBlock = some b → V.ownBlock ≠ some b) (hbase : base ≤ w.heap.size) (hg : (w1.alloc o).grownBy w2 V.ownBlock) (hap : ∀ g, V'.ownBlock = some g → V.ownBlock = some g ∨ w1.heap.size + 1 ≤ g) (B : Nat) (hB : B < base) (x : Value) :
    CpRows base (w2.setCell ⟨B, 0, none⟩ x) V' (k + 1) T (vs ++ [u]) := by
  have key : ∀ b, base ≤ b → b < w1.heap.size → V.ownBlock ≠ some b → (w2.setCell ⟨B, 0, none⟩ x).heap[b]? = w1.heap[b]? := by
    intro b hbb hb hne
    rw [Below.heap_setCell _ _ _ _ (by show b ≠ B; omega), hg.block b (by simp; omega) (fun e => hne e.symm), Below.heap_alloc _ _ _ hb]
  have hV' : ∀ b, b < w1.heap.size → V.ownBlock ≠ some b → V'.ownBlock ≠ some b := fun b hb hne e => by
    rcases hap b e with e' | e'
    · exact hne e'
    · omega
  refine ⟨fun j m hj hm => ?_, fun i j a z b hij ha hz hb => ?_⟩
  · by_cases hjk : j < k
    · obtain ⟨z, h1, h2, h3⟩ := h.row j m hjk hm
      refine ⟨z, by rw [List.getElem?_append_left (by rw [hlen]; exact hjk)]; exact h1, own_other h2 (fun b hb => key b (h2.lt b hb).1 (h2.lt b hb).2 (h3 b hb)), fun b hb => hV' b (h2.lt b hb).2 (h3 b hb)⟩
    · have : j = k := by omega
      subst this
      rw [hx] at hm
      cases hm
      refine ⟨u, by rw [List.getElem?_append_right (by rw [hlen]; omega), hlen]; simp, own_other (own_base hu hbase) (fun b hb => key b (by have := (hu.lt b hb).1; omega) (hu.lt b hb).2 (hub b hb)), fun b hb => hV' b (hu.lt b hb).2 (hub b hb)⟩
  · have hj2 : j ≤ k := by
      have := (List.getElem?_eq_some_iff.1 hz).1
      rw [List.length_append, hlen] at this
      simp at this
      omega
    rw [List.getElem?_append_left (by rw [hlen]; omega)] at ha
    by_cases hjk : j < k
    · rw [List.getElem?_append_left (by rw [hlen]; exact hjk)] at hz
      exact h.apart i j a z b hij ha hz hb
    · have : j = k := by omega
      subst this
      rw [List.getElem?_append_right (by rw [hlen]; omega), hlen] at hz
      simp at hz
      subst hz
      intro e
      have h1 := (hu.lt b e).1
      have h2 := hold i a b ha hb
      omega

/-- What Copy hands back: all of it new, no two lists in one block. -/
structure CpAt (base : Nat) (w : World) (V vc : Value) (T : List (List Ins)) (c : List Atm) (vs : List Value) : Prop where
  len : vs.length = T.length
  own : w.ownsRow base 34 1 V T.length vs
  rows : CpRows base w V T.length T vs
  atm : AtmAt w vc c
  ab : ∀ b, vc.ownBlock = some b → base ≤ b ∧ b < w.heap.size ∧ V.ownBlock ≠ some b ∧ ∀ (j : Nat) (u : Value), vs[j]? = some u → u.ownBlock ≠ some b

set_option maxHeartbeats 2000000 in
theorem copy_new (T : List (List Ins)) (fa : Bool) (c : List Atm) (v vt vc : Value) (w : World) (h : TestAt w v T fa c vt vc) :
    Calls Try.prog 27 #[v] w fun e w' => ∃ vt' vc', e = .returned (.agg #[vt', .bool fa, vc']) ∧ (TestAt w' (.agg #[vt', .bool fa, vc']) T fa c vt' vc' ∧ ∃ vs, CpAt w.heap.size w' vt' vc' T c vs) ∧ Below w.heap.size w w' := by
  obtain ⟨hv, ht, ⟨hc0, ao', b', off', cap', hcv, hca, hcn, hcc⟩⟩ := h
  obtain ⟨ht0, ao, b, off, cap, htv, hta, _, htc⟩ := ht.opened
  subst hv htv hcv
  obtain ⟨i5, hi5, hy0, hy1, hy2⟩ := info_parts Try.infoInstr
  have HI5 : Hid (Try.prog.info? 37 = some i5 ∧ i5.zero = some (.agg #[.int .i64 0, .int .i64 0, .int .i64 0, .int .i64 0, .int .i64 0]) ∧ i5.size = 5 ∧ i5.bytes = 40) := ⟨hi5, hy0, hy1, hy2⟩
  obtain ⟨i1, hi1, hx0, hx1, hx2⟩ := info_parts Try.infoInstrs
  have HI1 : Hid (Try.prog.info? 34 = some i1 ∧ i1.zero = some (.slice none 0 0) ∧ i1.size = 1 ∧ i1.bytes = 24) := ⟨hi1, hx0, hx1, hx2⟩
  obtain ⟨i3, hi3, hw0, hw1, hw2⟩ := info_parts Try.infoAtom
  have HI3 : Hid (Try.prog.info? 101 = some i3 ∧ i3.zero = some (.agg #[.int .i64 0, .int .i64 0, .int .i64 0]) ∧ i3.size = 3 ∧ i3.bytes = 24) := ⟨hi3, hw0, hw1, hw2⟩
  clear hi5 hy0 hy1 hy2 hi1 hx0 hx1 hx2 hi3 hw0 hw1 hw2
  go_enter Try.func27, Try.ntmps27
  go_wp2_with fail
  have HS0 : Hid (CopySt w _ _ _ fa (w.heap.size + 1 + 1) (.slice none 0 0) 0 T []) := copySt_init w (.slice ao T.length cap) (.slice ao' c.length cap') fa T 25
  generalize hB : w.heap.size + 1 + 1 = B
  have HB2 : Hid (B = w.heap.size + 2) := by unfold Hid; omega
  have hB3 : w.heap.size + 1 < B := by omega
  have hB4 : w.heap.size < B := by omega
  clear hB
  go_loopw [4] (fun i wr => ∃ (k : Nat) (aoV : Option Addr) (capV : Nat) (vs : List Value), k ≤ T.length ∧ i = .int .i64 k ∧ CopySt w wr (.slice ao T.length cap) (.slice ao' c.length cap') fa B (.slice aoV k capV) k T vs ∧ Hid (CpRows (B + 1) wr (.slice aoV k capV) k T vs)) (fun i _ => T.length - (intOf i).toNat)
  case atStart => rw [HB2.out]; exact ⟨0, none, 0, [], Nat.zero_le _, rfl, HS0.out, CpRows.nil _ _ _ _⟩
  case round =>
    obtain ⟨k, aoV, capV, vs, hk, rfl, S, HP⟩ := hrel
    have HS : Hid (CopySt w wr (.slice ao T.length cap) (.slice ao' c.length cap') fa B (.slice aoV k capV) k T vs) := S
    obtain ⟨-, -, e0, e2, r0, r1, r2, q0, q1, q2, f0, f1, f2, z0, z1, z2, lb, -, -, -⟩ := S
    by_cases hlt : k < T.length
    · obtain ⟨l, hx⟩ := get_of_lt hlt
      obtain ⟨hbl, ao2, cap2, c0, hil⟩ := htc k l hx
      obtain rfl := hta (ne_nil hlt)
      have c1 := keep_cell HS.out.below c0
      have HIL : Hid (InsAt wr (.slice ao2 l.length cap2) l) := hil.keep HS.out.below
      obtain ⟨hl40, ao3, b3, off3, cap3, hs3⟩ := HIL.out
      have hv3 := hs3.hv
      simp only [Value.slice.injEq] at hv3
      obtain ⟨rfl, -, rfl⟩ := hv3
      have HS3 : Hid (SlAt wr 5 InsC (.slice ao2 l.length cap2) l ao2 b3 off3 cap2) := hs3
      have HX : Hid (T[k]? = some l) := hx
      have HTC : Hid (∀ k l, T[k]? = some l → b < w.heap.size ∧ ∃ ao' cap', w.cell? ⟨b, off + k, none⟩ = some (.slice ao' l.length cap') ∧ InsAt w (.slice ao' l.length cap') l) := htc
      have HCC : Hid (∀ k x, c[k]? = some x → AtmC w b' (off' + k * 3) x) := hcc
      clear hx hs3 hil c0 htc hcc HS0 ht
      go_wp2_with (at_builtin; refine append_new _ rfl (.tmp 16) (.tmp 21) 34 rfl wr.heap.size 37 i5 (.agg #[.int .i64 0, .int .i64 0, .int .i64 0, .int .i64 0, .int .i64 0]) 5 40 Try.underlying34 HI5.out.1 HI5.out.2.1 HI5.out.2.2.1 HI5.out.2.2.2 rfl (by decide) (.slice none 0 0) 0 [] rfl (World.ownsRow_nil _ _ _ _) ao2 l.length cap2 (l.flatMap insV) rfl (fun h => ⟨by rw [(HS3.out.hn h).1]; rfl, (HS3.out.hn h).2⟩) (flat_len insV 5 (fun _ => rfl) l) (ins_cells HS3.out) (ins_one l) (by unfold maxLen; omega) (by omega) (Nat.le_refl _) ?_)
      intro v1 w1 hown1 hgrow1 _
      have hap1 : ∀ b, v1.ownBlock = some b → wr.heap.size ≤ b ∧ b < w1.heap.size := fun b hb => hown1.lt b hb
      obtain ⟨aoN, capN, hvN, _⟩ := own_form hown1
      have hgN : wr.grownBy w1 none := hgrow1
      have S1 := HS.out.grown hgN
      have hbn : Below wr.heap.size wr w1 := ⟨hgN.os, hgN.tape, hgN.output, hgN.size, fun i hi => hgN.block i hi (by simp)⟩
      have HP1 : Hid (CpRows (B + 1) w1 (.slice aoV k capV) k T vs ∧ w1.ownsRow wr.heap.size 37 5 v1 l.length (l.flatMap insV) ∧ wr.heap.size ≤ w1.heap.size ∧ B + 1 ≤ wr.heap.size ∧ ∀ (j : Nat) (z : Value) (b : Nat), vs[j]? = some z → z.ownBlock = some b → b < wr.heap.size) := by
        refine ⟨HP.out.other (fun b _ hb _ => hbn.block b hb), by simpa using hown1, hbn.size, by have := HS.out.lb; omega, fun j z b hz hzb => ?_⟩
        have hj : j < k := by have := (List.getElem?_eq_some_iff.1 hz).1; rw [HS.out.len] at this; exact this
        obtain ⟨m, hm⟩ := get_of_lt (l := T) (k := j) (by omega)
        obtain ⟨z', h1, _, h3⟩ := HS.out.rows j m hj hm
        rw [hz] at h1
        cases h1
        exact (h3 b hzb).2.1
      have hub : ∀ b, v1.ownBlock = some b → B < b ∧ b < w1.heap.size ∧ (Value.slice aoV k capV).ownBlock ≠ some b := fun b hb => ⟨by have := (hap1 b hb).1; omega, (hap1 b hb).2, fun e => by have := (HS.out.own.lt b e).2; have := (hap1 b hb).1; omega⟩
      have hIn := owns_ins hl40 hown1
      subst hvN
      have HS1 : Hid (CopySt w w1 (.slice (some ⟨b, off, none⟩) T.length cap) (.slice ao' c.length cap') fa B (.slice aoV k capV) k T vs) := S1
      have HU : Hid (InsAt w1 (.slice aoN l.length capN) l ∧ ∀ b, (Value.slice aoN l.length capN).ownBlock = some b → B < b ∧ b < w1.heap.size ∧ (Value.slice aoV k capV).ownBlock ≠ some b) := ⟨hIn, hub⟩
      clear hown1 hgrow1 hap1 hgN hub hIn e0 e2 r0 r1 r2 q0 q1 q2 f0 f1 f2 z0 z1 z2 lb c1 HS HIL HS3
      obtain ⟨-, -, e0, e2, r0, r1, r2, q0, q1, q2, f0, f1, f2, z0, z1, z2, lb, -, -, -⟩ := S1
      go_wp2_with (at_builtin; refine append_new _ rfl (.tmp 24) (.tmp 26) 22 rfl (B + 1) 34 i1 (.slice none 0 0) 1 24 Try.underlying22 HI1.out.1 HI1.out.2.1 HI1.out.2.2.1 HI1.out.2.2.2 rfl (by decide) (.slice aoV k capV) k vs rfl (HS1.out.own.alloc _) (some ⟨w1.heap.size, 0, none⟩) 1 1 [.slice aoN l.length capN] rfl (fun h => by cases h) rfl (fun ad had => by cases had; exact new_one rfl) (by simp [Value.oneCell']) (by unfold maxLen; omega) (by omega) (by simp; omega) ?_)
      intro V2 w2 hown2 hgrow2 hap2
      have hap3 : ∀ g, V2.ownBlock = some g → (Value.slice aoV k capV).ownBlock = some g ∨ w1.heap.size + 1 ≤ g := by simpa using hap2
      obtain ⟨aoW, capW, hvW, _⟩ := own_form hown2
      subst hvW
      have HS2 : Hid (CopySt w (w2.setCell ⟨B, 0, none⟩ (.slice aoW (k + 1) capW)) (.slice (some ⟨b, off, none⟩) T.length cap) (.slice ao' c.length cap') fa B (.slice aoW (k + 1) capW) (k + 1) T (vs ++ [.slice aoN l.length capN])) :=
        HS1.out.step HX.out HU.out.1 HU.out.2 hown2 hgrow2 hap3
      have HP2 : Hid (CpRows (B + 1) (w2.setCell ⟨B, 0, none⟩ (.slice aoW (k + 1) capW)) (.slice aoW (k + 1) capW) (k + 1) T (vs ++ [.slice aoN l.length capN])) :=
        HP1.out.1.step HS1.out.len HX.out HP1.out.2.2.1 HP1.out.2.2.2.2 HP1.out.2.1 (fun b hb => (HU.out.2 b hb).2.2) HP1.out.2.2.2.1 hgrow2 hap3 B (by omega) _
      have hBk : w2.heap[B]? = w1.heap[B]? := by
        rw [hgrow2.block B (by simp; omega) (fun e => by have := (HS1.out.own.lt B e.symm).1; omega), Below.heap_alloc _ _ _ lb]
      have y0 := cell_heap hBk f0
      have y3 : w2.frozen? ⟨B, 0, none⟩ = false := (World.frozen?_of_block (w := w1) hBk).trans z0
      clear hown2 hgrow2 hap2 hap3 hBk e0 e2 r0 r1 r2 q0 q1 q2 f0 f1 f2 z0 z1 z2 lb HS1 HU HP1 HP
      go_wp2_with fail
      go_roundw
      case measure => simp [intOf]; omega
      case rel => exact ⟨k + 1, aoW, capW, _, by omega, by go_num, HS2.out, HP2.out⟩
    · have hkT : k = T.length := by omega
      subst hkT
      have HCS : Hid (SlAt wr 3 AtmC (.slice ao' c.length cap') c ao' b' off' cap') := (SlAt.keep atmC_keeps ⟨rfl, hca, hcn, hcc⟩ HS.out.below)
      clear htc hta hca hcn hcc HS0 ht
      go_wp2_with (at_builtin; refine append_new _ rfl (.tmp 30) (.tmp 32) 23 rfl wr.heap.size 101 i3 (.agg #[.int .i64 0, .int .i64 0, .int .i64 0]) 3 24 Try.underlying23 HI3.out.1 HI3.out.2.1 HI3.out.2.2.1 HI3.out.2.2.2 rfl (by decide) (.slice none 0 0) 0 [] rfl (World.ownsRow_nil _ _ _ _) ao' c.length cap' (c.flatMap atmV) rfl (fun h => ⟨by rw [(HCS.out.hn h).1]; rfl, (HCS.out.hn h).2⟩) (flat_len atmV 3 (fun _ => rfl) c) (atm_cells HCS.out) (atm_one c) (by unfold maxLen; omega) (by omega) (Nat.le_refl _) ?_)
      intro v1 w1 hown1 hgrow1 _
      obtain ⟨aoN, capN, hvN, _⟩ := own_form hown1
      have hlt1 := fun b hb => hown1.lt b hb
      have S1 := HS.out.grown hgrow1
      have hgN : wr.grownBy w1 none := hgrow1
      have hbn : Below wr.heap.size wr w1 := ⟨hgN.os, hgN.tape, hgN.output, hgN.size, fun i hi => hgN.block i hi (by simp)⟩
      have HB1 : Hid (CpRows (B + 1) w1 (.slice aoV T.length capV) T.length T vs) := HP.out.other (fun b _ hb _ => hbn.block b hb)
      subst hvN
      have hAt := owns_atm hc0 hown1
      have HS1 : Hid (CopySt w w1 (.slice ao T.length cap) (.slice ao' c.length cap') fa B (.slice aoV T.length capV) T.length T vs) := S1
      have HU : Hid (AtmAt w1 (.slice aoN c.length capN) c ∧ ∀ b, (Value.slice aoN c.length capN).ownBlock = some b → wr.heap.size ≤ b ∧ b < w1.heap.size) := ⟨hAt, hlt1⟩
      clear hown1 hgrow1 hlt1 hAt e0 e2 r0 r1 r2 q0 q1 q2 f0 f1 f2 z0 z1 z2 HCS
      have lbr := lb
      clear lb
      obtain ⟨-, -, e0, e2, r0, r1, r2, q0, q1, q2, f0, f1, f2, z0, z1, z2, lb, -, -, -⟩ := S1
      go_wp2_with fail
      have hs : ∀ x : Nat, x ≠ B → x ≠ w.heap.size + 1 → ((((w1.setCell ⟨B, 2, none⟩ (.slice aoN c.length capN)).setCell ⟨w.heap.size + 1, 0, none⟩ (.slice aoV T.length capV)).setCell ⟨w.heap.size + 1, 1, none⟩ (.bool fa)).setCell ⟨w.heap.size + 1, 2, none⟩ (.slice aoN c.length capN)).heap[x]? = w1.heap[x]? := by
        intro x h1 h2
        rw [Below.heap_setCell _ _ _ _ h2, Below.heap_setCell _ _ _ _ h2, Below.heap_setCell _ _ _ _ h2, Below.heap_setCell _ _ _ _ h1]
      refine bodyPost_ret (v := .agg #[.slice aoV T.length capV, .bool fa, .slice aoN c.length capN]) (by simp [results, Try.results27, go_sem, *]) rfl
        ⟨_, _, rfl, ⟨⟨rfl, HS1.out.done ht0 hs, HU.out.1.other (fun x hx => hs x (by have := (HU.out.2 x hx).1; omega) (by have := (HU.out.2 x hx).1; omega))⟩, vs, ?_⟩, ?_⟩
      · have hB2 := HB2.out
        have hrl := HS.out.lb
        have hso : ∀ b : Nat, B + 1 ≤ b → ((((w1.setCell ⟨B, 2, none⟩ (.slice aoN c.length capN)).setCell ⟨w.heap.size + 1, 0, none⟩ (.slice aoV T.length capV)).setCell ⟨w.heap.size + 1, 1, none⟩ (.bool fa)).setCell ⟨w.heap.size + 1, 2, none⟩ (.slice aoN c.length capN)).heap[b]? = w1.heap[b]? := fun b hb => hs b (by omega) (by omega)
        have hrow := HB1.out.other (w' := ((((w1.setCell ⟨B, 2, none⟩ (.slice aoN c.length capN)).setCell ⟨w.heap.size + 1, 0, none⟩ (.slice aoV T.length capV)).setCell ⟨w.heap.size + 1, 1, none⟩ (.bool fa)).setCell ⟨w.heap.size + 1, 2, none⟩ (.slice aoN c.length capN))) (fun b hb _ _ => hso b hb)
        have hrow2 : ∀ (j : Nat) (u : Value) (b : Nat), vs[j]? = some u → u.ownBlock = some b → b < wr.heap.size := fun j z b hz hzb => by
          have hj : j < T.length := by have := (List.getElem?_eq_some_iff.1 hz).1; rw [HS.out.len] at this; exact this
          obtain ⟨m, hm⟩ := get_of_lt (l := T) (k := j) hj
          obtain ⟨z', h1, _, h3⟩ := HS.out.rows j m hj hm
          rw [hz] at h1
          cases h1
          exact (h3 b hzb).2.1
        refine ⟨HS.out.len, own_base (own_other HS1.out.own (fun b hb => hso b (HS1.out.own.lt b hb).1)) (by omega), ⟨fun j l hj hl => ?_, hrow.apart⟩, HU.out.1.other (fun x hx => hs x (by have := (HU.out.2 x hx).1; omega) (by have := (HU.out.2 x hx).1; omega)), fun b hb => ⟨by have := (HU.out.2 b hb).1; omega, by have := (HU.out.2 b hb).2; simp [World.setCell]; omega, fun e => ?_, fun j u hu e => ?_⟩⟩
        · obtain ⟨u, h1, h2, h3⟩ := hrow.row j l hj hl
          exact ⟨u, h1, own_base h2 (by omega), h3⟩
        · have h1 := (HS.out.own.lt b e).2
          have h2 := (HU.out.2 b hb).1
          omega
        · have h1 := hrow2 j u b hu e
          have h2 := (HU.out.2 b hb).1
          omega
      exact (((HS1.out.below.setCell (by simp; omega) _).setCell (by simp) _).setCell (by simp) _).setCell (by simp) _

end Go.Proofs.Ytomijmikkbhgmab

namespace Go.Proofs.Ytomijmikkbhgmab
open Go.ChangeShapes Go.WideShapes Go.ChangeAt Go.RowKit Go.Deep

def capOk (u : Value) : Prop := ∀ ao n cap, u = .slice ao n cap → n ≤ cap
/-- A thread, and its length is no more than its room. -/
structure ThrC2 (w : World) (b off : Nat) (l : List Ins) : Prop where
  ex : ∃ u, w.cell? ⟨b, off, none⟩ = some u ∧ InsAt w u l ∧ capOk u
theorem ThrC2.thr {w : World} {b off : Nat} {l : List Ins} (h : ThrC2 w b off l) : ThrC w b off l := by
  obtain ⟨u, h1, h2, _⟩ := h.ex
  exact ⟨u, h1, h2⟩
def ThrCap (w : World) (v : Value) (T : List (List Ins)) : Prop := ∃ ao b off cap, SlAt w 1 ThrC2 v T ao b off cap
theorem thrC2_keeps : Keeps ThrC2 := fun _ _ _ _ _ hb h => by
  obtain ⟨u, h1, h2, h3⟩ := h.ex
  exact ⟨u, keep_cell hb h1, h2.keep hb, h3⟩
theorem ThrCap.keep {w w' : World} {v : Value} {T : List (List Ins)} (h : ThrCap w v T) (hb : Below w.heap.size w w') : ThrCap w' v T := by
  obtain ⟨ao, b, off, cap, h⟩ := h
  exact ⟨ao, b, off, cap, h.keep thrC2_keeps hb⟩
/-- Opened. -/
theorem ThrCap.opened {w : World} {ao : Option Addr} {n cap : Nat} {T : List (List Ins)} (h : ThrCap w (.slice ao n cap) T) {k : Nat} {l : List Ins} (hk : T[k]? = some l) : ∃ b off ao' cap', ao = some ⟨b, off, none⟩ ∧ w.cell? ⟨b, off + k, none⟩ = some (.slice ao' l.length cap') ∧ InsAt w (.slice ao' l.length cap') l ∧ l.length ≤ cap' := by
  obtain ⟨ao2, b, off, cap2, hs⟩ := h
  have hv := hs.hv
  simp only [Value.slice.injEq] at hv
  obtain ⟨rfl, -, rfl⟩ := hv
  obtain ⟨u, h1, h2, h3⟩ := (hs.hc k l hk).ex
  obtain ⟨i0, ao', b', off', cap', hs'⟩ := h2
  have hu := hs'.hv
  subst hu
  rw [Nat.mul_one] at h1
  exact ⟨b, off, ao', cap', hs.ha (ne_nil (List.getElem?_eq_some_iff.1 hk).1), h1, ⟨i0, ao', b', off', cap', hs'⟩, h3 _ _ _ rfl⟩

theorem cap_of_trod {H : Type} {enc : TypeId × Value → H} {w : World} {t e : TypeId} {fuel : Nat} {v : Value} {x : DataW H × List MemPlace} (ht : Try.prog.underlying t = some (.slice e)) (h : DataW.trod enc Try.prog w 0 (fun _ => true) true fuel t [v] = some x) : capOk v := by
  rcases open_slice ht h with ⟨hcs, _⟩ | ⟨a, len, cap, m, n, D, Pl, hcs, _, hlc, _⟩
  · simp at hcs
    subst hcs
    intro ao n cap e
    cases e
    exact Nat.le_refl _
  · simp at hcs
    subst hcs
    intro ao n cap e
    cases e
    exact hlc

theorem open_thr2 {H : Type} {enc : TypeId × Value → H} {w : World} {fuel : Nat} {v : Value} {x : DataW H × List MemPlace} (h : DataW.trod enc Try.prog w 0 (fun _ => true) true fuel 22 [v] = some x) (hw : ∀ n ∈ x.1.weights Try.prog 22, n ≤ reachBytes) : ∃ T, ThrAt w v T ∧ ThrCap w v T := by
  obtain ⟨l, ao, b, off, cap, hs, hl⟩ := open_sl (α := List Ins) [] (C := ThrC2) (s := 1) (by decide) Try.underlying22 Try.cellsInstrs (fun d => ∀ n ∈ d.weights Try.prog 34, n ≤ reachBytes)
    (fun fuel cs x hx hok => by
      have hform : ∃ u, cs = [u] := by
        rcases open_slice Try.underlying34 hx with ⟨hcs, _⟩ | ⟨a, len, cap, m, n, D, Pl, hcs, _⟩
        · exact ⟨_, hcs⟩
        · exact ⟨_, hcs⟩
      obtain ⟨u, rfl⟩ := hform
      obtain ⟨l, hl⟩ := open_ins hx hok
      exact ⟨l, fun b off hc => ⟨u, hc 0 _ rfl, hl, cap_of_trod Try.underlying34 hx⟩⟩) h (fun el sp e d hd => by rw [e] at hw; exact (weights_slice Try.underlying22 hw).2 d hd)
  refine ⟨l, ⟨?_, ao, b, off, cap, hs.hv, hs.ha, hs.hn, fun k x hx => (hs.hc k x hx).thr⟩, ao, b, off, cap, hs⟩
  rcases hl with ⟨_, rfl⟩ | ⟨el, sp, e, hel⟩
  · simp
  · rw [e] at hw
    have := (weights_slice Try.underlying22 hw).1
    rw [Try.bytesInstrs, hel, reachBytes] at this
    omega


set_option maxRecDepth 100000 in
/-- An argument of type api.Test, with what room its threads have. -/
theorem open_test2 {H : Type} {enc : TypeId × Value → H} {w : World} {r : Reach} {b0 : Nat} {v : Value} {d : DataW H} {p : List MemPlace} (hv : Value.okWide Try.prog w r b0 25 v) (h : DataW.Trod enc Try.prog w 0 (fun _ => true) true 25 v d p)
    (hw : ∀ n ∈ d.weights Try.prog 25, n ≤ reachBytes) : ∃ T fa c vt vc, TestAt w v T fa c vt vc ∧ ThrCap w vt T := by
  obtain ⟨c0, c1, c2, y0, y1, y2, n, rfl, rfl, rfl, h0, h1, h2⟩ := Joins.open_agg3 Try.underlying25 (by kernel_rfl) Try.cellsTest hv h
  have hwe : ∀ n ∈ DataW.weightsEach Try.prog [22, 4, 23] [y0.1, y1.1, y2.1], n ≤ reachBytes := by
    intro n hn
    refine hw n ?_
    simp only [DataW.weights, Try.underlying25]
    exact hn
  obtain ⟨T, hT, hcT⟩ := open_thr2 h0 (fun n hn => hwe n (DataW.weights_mem_each (j := 0) rfl rfl n hn))
  obtain ⟨fa, e1, _⟩ := DataW.trod_bool Try.underlying4 h1
  simp at e1
  subst e1
  obtain ⟨c, hc⟩ := open_atms h2 (fun n hn => hwe n (DataW.weights_mem_each (j := 2) rfl rfl n hn))
  exact ⟨T, fa, c, c0, c2, ⟨rfl, hT, hc⟩, hcT⟩
end Go.Proofs.Ytomijmikkbhgmab
