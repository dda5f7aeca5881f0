import Derived.Test.YtomijmikkbhgmaaGreatT15
import Derived.Test.YtomijmikkbhgmaaGreatT35
import Derived.Test.YtomijmikkbhgmaaGreatT10
import Derived.Test.YtomijmikkbhgmaaGreatT30
namespace Go.Proofs.YtomijmikkbhgmaaGreat
open Go.RowKit

set_option maxRecDepth 20000 in
set_option maxHeartbeats 4000000 in
theorem valueOf_any (T : List (List Ins)) (hS : Short T) (vt : Value) (E : List Evt) (hE : E.length ≤ 96) (hin : EvsIn T E) (F : List Int) (hF : F.length = E.length) (hr : ∀ f ∈ F, EvI E.length f) (i : Int) (hi : EvI E.length i) (v vf : Value) (w : World) (ht : ThrAt w vt T) (h : Ev4At w v E) (hf : IntAt w vf F) :
    Calls Tryz.prog 75 #[vt, v, vf, .int .i64 i] w fun e w' => e = .returned (.int .i64 (valN E (fun j => F.getD j 0) E.length i)) ∧ Below w.heap.size w w' := by
  have HT : Hid (ThrAt w vt T ∧ Short T ∧ EvsIn T E) := ⟨ht, hS, hin⟩
  have HLR : Hid (∀ (j : Nat) (y : Evt) (w5 : World), j < E.length → Below w.heap.size w w5 → Calls Tryz.prog 74 #[vt, v, .int .i64 y.thread, .int .i64 y.ins.reg, .int .i64 j] w5 fun e w' => e = .returned (.int .i64 (srcG y (E.take j) 0 (-1))) ∧ Below w5.heap.size w5 w') := fun j y w5 hj hb => lastRead_any T hS vt E hE hin j (Nat.le_of_lt hj) y v w5 (ht.keep hb) (h.keep hb)
  have HSE : Hid (∀ (k : Nat) (y : Evt), k < E.length → EvI E.length (srcG y (E.take k) 0 (-1))) := fun k y hk => by
    rcases srcG_range y (E.take k) 0 (-1) (.inl rfl) with h | ⟨a, h1, h2⟩
    · exact .inl h
    · exact .inr ⟨a, h1, by rw [List.length_take] at h2; omega⟩
  obtain ⟨_, aoT, bT, offT, capT, hvT, _⟩ := ht
  obtain ⟨ao, b, off, cap, hv, ha, _, hc⟩ := h
  obtain ⟨aof, bf, offf, capf, hvf, haf, _, hcf⟩ := hf
  subst hv hvT hvf
  rw [hF]
  have HC : Hid (∀ k y, E[k]? = some y → Ev4C w b (off + k * 4) y) := hc
  have HFC : Hid (∀ k x, F[k]? = some x → w.cell? ⟨bf, offf + k, none⟩ = some (.int .i64 x)) := fun k x hx => by
    have := hcf k x hx
    unfold IntC at this
    rw [Nat.mul_one] at this; exact this
  have HFI : Hid (F.length = E.length ∧ ∀ f ∈ F, EvI E.length f) := ⟨hF, hr⟩
  have HVN : Hid (∀ (d : Nat) (i : Int), i < 0 → valN E (fun j => F.getD j 0) d i = 0) := fun d i hi => valN_neg _ _ _ hi
  have HV0 : Hid (∀ i : Int, valN E (fun j => F.getD j 0) 0 i = 0) := fun i => rfl
  have HVR : Hid (∀ (d k : Nat) (y : Evt) (f : Int), E[k]? = some y → F[k]? = some f → (y.kind == 0) = true → valN E (fun j => F.getD j 0) (d + 1) (k : Int) = valN E (fun j => F.getD j 0) d f) := fun d k y f hk hf hk0 => by rw [valN_read hk hk0, List.getD, hf]; rfl
  have HVC : Hid (∀ (d k : Nat) (y : Evt), E[k]? = some y → (y.kind == 0) = false → (y.ins.op == 1) = true → valN E (fun j => F.getD j 0) (d + 1) (k : Int) = valN E (fun j => F.getD j 0) d (srcG y (E.take k) 0 (-1))) := fun d k y hk h1 h2 => valN_copy hk h1 h2
  have HVE : Hid (∀ (d k : Nat) (y : Evt), E[k]? = some y → (y.kind == 0) = false → (y.ins.op == 1) = false → valN E (fun j => F.getD j 0) (d + 1) (k : Int) = y.ins.val) := fun d k y hk h1 h2 => valN_else hk h1 h2
  generalize hVV : (fun j => F.getD j 0) = S at HVN HV0 HVR HVC HVE ⊢
  generalize hBB : valN E S E.length i = B
  have HB : Hid (B = valN E S (E.length - 0) i) := hBB.symm
  clear hBB
  clear hc hcf hS hin hr hF hVV
  go_enter Tryz.func75, Tryz.ntmps75
  go_wp2_with fail
  go_loopw [9, 10] (fun at' s wr => ∃ (a : Int) (k : Nat), k ≤ E.length ∧ s = .int .i64 k ∧ at' = .int .i64 a ∧ Hid (B = valN E S (E.length - k) a ∧ EvI E.length a) ∧ Below w.heap.size w wr) (fun _ s _ => E.length - (intOf s).toNat)
  case atStart => exact ⟨i, 0, Nat.zero_le _, rfl, rfl, ⟨HB.out, hi⟩, Below.refl _ _⟩
  case round =>
    clear HB
    obtain ⟨a, k, hk, rfl, rfl, hn, hb⟩ := hrel
    by_cases hlt : k < E.length
    · have hkI : (k : Int) < (E.length : Int) := by omega
      obtain ⟨d, hd⟩ : ∃ d, E.length - k = d + 1 := ⟨E.length - k - 1, by omega⟩
      have hd2 : E.length - (k + 1) = d := by omega
      have HN : Hid (B = valN E S (d + 1) a ∧ EvI E.length a) := by rw [← hd]; exact hn
      clear hn
      rcases HN.out.2 with ha1 | ⟨j, ha1, hj⟩
      · have HM : Hid (B = 0) := HN.out.1.trans (HVN.out _ _ (by omega))
        subst ha1
        clear HN
        go_wp2_with fail
        go_ret
        exact ⟨by rw [HM.out]; rfl, hb⟩
      · subst ha1
        obtain ⟨y, hy⟩ := get_of_lt hj
        obtain ⟨f, hf⟩ := get_of_lt (l := F) (k := j) (by have := HFI.out.1; omega)
        obtain rfl := ha (ne_nil hj)
        obtain rfl := haf (ne_nil (k := j) (by have := HFI.out.1; omega))
        obtain ⟨c0, c1, c2, c3⟩ := ev4C_keeps _ _ _ _ _ hb (HC.out j y hy)
        have f0 := keep_cell hb (HFC.out j f hf)
        have m0 := World.block_lt_of_cell? _ _ c0
        have m1 := World.block_lt_of_cell? _ _ f0
        simp only at m0 m1
        have hjI : (j : Int) < (E.length : Int) := by omega
        have hj0 : ¬ ((E.length : Int) ≤ (j : Int)) := by omega
        have hj1 : decide ((j : Int) < 0) = false := by simp
        cases hk0 : y.kind == 0
        · obtain ⟨iz, pz, lz, hzi⟩ := HT.out.2.2 y (List.mem_of_getElem? hy)
          have HZ : Hid (∀ w5, Below w.heap.size w w5 → Calls Tryz.prog 120 #[.slice aoT T.length capT, e4V y] w5 fun e w' => e = .returned (.agg #[.int .i64 y.ins.op, .int .i64 y.ins.loc, .int .i64 y.ins.reg, .int .i64 y.ins.val, .int .i64 y.ins.mode]) ∧ Below w5.heap.size w5 w') :=
            fun w5 hb5 => instrEv_any T HT.out.2.1 _ y iz pz lz hzi w5 (HT.out.1.keep hb5)
          have HL1 : Hid (∀ w5, Below w.heap.size w w5 → Calls Tryz.prog 74 #[.slice aoT T.length capT, .slice (some ⟨b, off, none⟩) E.length cap, .int .i64 y.thread, .int .i64 y.ins.reg, .int .i64 j] w5 fun e w' => e = .returned (.int .i64 (srcG y (E.take j) 0 (-1))) ∧ Below w5.heap.size w5 w') := fun w5 hb5 => HLR.out j y w5 hj hb5
          have hsz := hb.size
          cases ho : y.ins.op == 1
          · have ho' : (y.ins.op != 1) = true := by simp [bne, ho]
            have HM : Hid (B = y.ins.val) := HN.out.1.trans (HVE.out d j y hy hk0 ho)
            clear HN HL1 hzi hy hf
            go_wp2_with fail
            refine (HZ.out _ hb).mono ?_
            rintro e w5 ⟨rfl, hb5⟩
            have hb6 := below_more hb hb5
            go_wp2_with fail
            go_ret
            exact ⟨by rw [HM.out]; rfl, hb6.alloc hb6.size _⟩
          · have ho' : (y.ins.op != 1) = false := by simp [bne, ho]
            have HM : Hid (B = valN E S d (srcG y (E.take j) 0 (-1)) ∧ EvI E.length (srcG y (E.take j) 0 (-1))) := ⟨HN.out.1.trans (HVC.out d j y hy hk0 ho), HSE.out j y hj⟩
            generalize srcG y (E.take j) 0 (-1) = sg at HM HL1
            clear HN hzi hy hf
            go_wp2_with fail
            refine (HZ.out _ hb).mono ?_
            rintro e w5 ⟨rfl, hb5⟩
            have hb6 := below_more hb hb5
            have hb7 := hb6.alloc hb6.size (.cells #[.int .i64 y.ins.op, .int .i64 y.ins.loc, .int .i64 y.ins.reg, .int .i64 y.ins.val, .int .i64 y.ins.mode] 48)
            have hb57 := below_more hb5 (below_alloc w5 (.cells #[.int .i64 y.ins.op, .int .i64 y.ins.loc, .int .i64 y.ins.reg, .int .i64 y.ins.val, .int .i64 y.ins.mode] 48))
            have d0 := keep_cell hb57 c0
            have d1 : (w5.alloc (.cells #[.int .i64 y.ins.op, .int .i64 y.ins.loc, .int .i64 y.ins.reg, .int .i64 y.ins.val, .int .i64 y.ins.mode] 48)).cell? ⟨w5.heap.size, 2, none⟩ = some (.int .i64 y.ins.reg) := by simp
            clear c0 c1 c2 c3 f0
            go_wp2_with fail
            generalize w5.alloc (.cells #[.int .i64 y.ins.op, .int .i64 y.ins.loc, .int .i64 y.ins.reg, .int .i64 y.ins.val, .int .i64 y.ins.mode] 48) = W7 at hb7 hb57 d0 d1 ⊢
            replace d0 := grown_cell d0
            replace d1 := grown_cell d1
            have hne := grw_some W7
            refine wp_region_grown (by kernel_rfl) (by kernel_rfl) ?_
            repeat (go_big_quiet_step ((go_at_call 74; exact grown_call (HL1.out _ (below_more hb7 (Grw.low _))))))
            refine wpQuiet_nil ?_
            intro w8 hw8
            obtain ⟨⟨w8', hb8⟩, rfl⟩ := hw8
            have hb9 := below_more hb7 hb8
            clear d0 d1
            go_wp2_with fail
            go_roundw
            case measure => simp [intOf]; omega
            case rel => exact ⟨sg, k + 1, by omega, by go_num, rfl, by rw [hd2]; exact HM.out, hb9⟩
        · have HM : Hid (B = valN E S d f ∧ EvI E.length f) := ⟨HN.out.1.trans (HVR.out d j y f hy hf hk0), HFI.out.2 f (List.mem_of_getElem? hf)⟩
          clear HN hy hf
          go_wp2_with fail
          go_roundw
          case measure => simp [intOf]; omega
          case rel => exact ⟨f, k + 1, by omega, by go_num, rfl, by rw [hd2]; exact HM.out, hb⟩
    · have HM : Hid (B = 0) := hn.out.1.trans (by rw [show E.length - k = 0 by omega]; exact HV0.out _)
      have hkI : (E.length : Int) ≤ (k : Int) := by omega
      clear hn
      go_wp2_with fail
      go_ret
      exact ⟨by rw [HM.out]; rfl, hb⟩

def lastI (l : List Int) : Int := match l.getLast? with
  | none => -1
  | some a => a

set_option maxRecDepth 20000 in
theorem lastOf_any (l : List Int) (hl : l.length ≤ 1000) (v : Value) (w : World) (h : IntAt w v l) :
    Calls Tryz.prog 76 #[v] w fun e w' => e = .returned (.int .i64 (lastI l)) ∧ Below w.heap.size w w' := by
  obtain ⟨ao, b, off, cap, hv, ha, _, hc⟩ := h
  subst hv
  by_cases hl0 : l = []
  · subst hl0
    clear hc ha
    go_enter Tryz.func76, Tryz.ntmps76
    go_wp2_with fail
    go_ret
    exact ⟨rfl, Below.refl _ _⟩
  · have hlp : 0 < l.length := List.length_pos_iff.2 hl0
    obtain ⟨a, hal1⟩ := get_of_lt (l := l) (k := l.length - 1) (by omega)
    obtain rfl := ha hl0
    have HLA : Hid (lastI l = a) := by show lastI l = a; unfold lastI; rw [List.getLast?_eq_getElem?, hal1]
    have q0 := hc _ _ hal1
    unfold IntC at q0
    rw [Nat.mul_one] at q0
    have hd1 : ((l.length : Int) == 0) = false := by simp; omega
    have hsub : (l.length : Int) - 1 = ((l.length - 1 : Nat) : Int) := by omega
    have hsubI : ((l.length - 1 : Nat) : Int) < (l.length : Int) := by omega
    have hsw : IntKind.i64.wrap ((l.length - 1 : Nat) : Int) = ((l.length - 1 : Nat) : Int) := by rw [IntKind.wrap_i64]; omega
    clear hc ha hal1
    generalize lastI l = B at HLA
    generalize l.length - 1 = l1 at *
    generalize l.length = ln at *
    go_enter Tryz.func76, Tryz.ntmps76
    go_wp2_with fail
    go_ret
    exact ⟨by rw [HLA.out]; rfl, Below.refl _ _⟩

end Go.Proofs.YtomijmikkbhgmaaGreat

namespace Go.Proofs.YtomijmikkbhgmaaGreat

/-- A row of numbers along which the arrows between them lead. -/
def Along (A : List (Int × Int)) (L : List Nat) : Prop := ∀ (i j a b : Nat), L[i]? = some a → L[j]? = some b → ((a : Int), (b : Int)) ∈ A → i < j

theorem along_of {n : Nat} {A : List (Int × Int)} (h : ¬ Cyc n A) (m : Nat) (S : List Nat) (hm : S.length = m) (hnd : S.Nodup) (hS : ∀ a ∈ S, a < n) : ∃ L : List Nat, L.Nodup ∧ (∀ a, a ∈ L ↔ a ∈ S) ∧ Along A L := by
  induction m generalizing S with
  | zero =>
    have : S = [] := List.eq_nil_of_length_eq_zero hm
    subst this
    exact ⟨[], List.nodup_nil, fun a => Iff.rfl, fun i j a b h => by simp at h⟩
  | succ m ih =>
    have hex : ∃ b ∈ S, ∀ a ∈ S, ((a : Int), (b : Int)) ∉ A := by
      refine Classical.byContradiction fun hno => h ⟨fun a => a ∈ S, ?_, fun b hb hbS => ?_⟩
      · obtain ⟨b, hb⟩ := List.exists_mem_of_length_pos (l := S) (by omega)
        exact ⟨b, hS b hb, hb⟩
      · refine Classical.byContradiction fun h2 => hno ⟨b, hbS, fun a ha hA => h2 ⟨a, hS a ha, ha, hA⟩⟩
    obtain ⟨b, hb, hfree⟩ := hex
    obtain ⟨L, h1, h2, h3⟩ := ih (S.erase b) (by rw [List.length_erase_of_mem hb]; omega) (hnd.erase b) (fun a ha => hS a (List.mem_of_mem_erase ha))
    have hbL : b ∉ L := fun hbL => (List.Nodup.not_mem_erase hnd) ((h2 b).1 hbL)
    refine ⟨b :: L, List.nodup_cons.2 ⟨hbL, h1⟩, fun a => ?_, fun i j a c hi hj hA => ?_⟩
    · rw [List.mem_cons, h2]
      constructor
      · rintro (rfl | h)
        · exact hb
        · exact List.mem_of_mem_erase h
      · intro ha
        by_cases e : a = b
        · exact .inl e
        · exact .inr ((List.mem_erase_of_ne e).2 ha)
    · have hmem : ∀ {k : Nat} {x : Nat}, (b :: L)[k]? = some x → x ∈ S := fun {k x} hk => by
        rcases List.mem_cons.1 (List.mem_of_getElem? hk) with rfl | hx
        · exact hb
        · exact List.mem_of_mem_erase ((h2 _).1 hx)
      cases j with
      | zero =>
        have hcb : b = c := by simpa using hj
        subst hcb
        exact absurd hA (hfree a (hmem hi))
      | succ j =>
        cases i with
        | zero => omega
        | succ i =>
          have := h3 i j a c (by simpa using hi) (by simpa using hj) hA
          omega

/-- All events, in one row. -/
theorem row_of {n : Nat} {A : List (Int × Int)} (h : ¬ Cyc n A) : ∃ L : List Nat, L.Nodup ∧ (∀ a, a ∈ L ↔ a < n) ∧ L.length = n ∧ Along A L := by
  obtain ⟨L, h1, h2, h3⟩ := along_of h n (List.range n) (by simp) List.nodup_range (fun a ha => by simpa using ha)
  have hm : ∀ a, a ∈ L ↔ a < n := fun a => by rw [h2]; simp
  refine ⟨L, h1, hm, ?_, h3⟩
  have e1 : L.length ≤ n := by
    have := nodup_le (nodup_cast h1) (m := (List.range n).map fun a : Nat => (a : Int)) (fun x hx => by
      obtain ⟨a, ha, rfl⟩ := List.mem_map.1 hx
      exact List.mem_map.2 ⟨a, by simpa using (hm a).1 ha, rfl⟩)
    simpa using this
  have e2 : n ≤ L.length := by
    have := nodup_le (nodup_cast (List.nodup_range (n := n))) (m := L.map fun a : Nat => (a : Int)) (fun x hx => by
      obtain ⟨a, ha, rfl⟩ := List.mem_map.1 hx
      exact List.mem_map.2 ⟨a, (hm a).2 (by simpa using ha), rfl⟩)
    simpa using this
  omega

/-- The place of an event in a row: along each arrow it grows. -/
theorem rank_of {n : Nat} {A : List (Int × Int)} (h : ¬ Cyc n A) : ∃ rk : Nat → Nat, (∀ a, a < n → rk a < n) ∧ ∀ a b : Nat, a < n → b < n → ((a : Int), (b : Int)) ∈ A → rk a < rk b := by
  obtain ⟨L, h1, h2, h3, h4⟩ := row_of h
  have hp : ∀ a, a < n → L[L.idxOf a]? = some a := fun a ha => by
    have hm := (h2 a).2 ha
    have hlt := List.idxOf_lt_length_of_mem hm
    rw [List.getElem?_eq_getElem hlt, List.getElem_idxOf]
  refine ⟨fun a => L.idxOf a, fun a ha => ?_, fun a b ha hb hA => h4 _ _ a b (hp a ha) (hp b hb) hA⟩
  have := List.idxOf_lt_length_of_mem ((h2 a).2 ha)
  show L.idxOf a < n
  omega

end Go.Proofs.YtomijmikkbhgmaaGreat

namespace Go.Proofs.YtomijmikkbhgmaaGreat

theorem valN_out {E : List Evt} {S : Nat → Int} {d j : Nat} (h : E.length ≤ j) : valN E S d (j : Int) = 0 := by
  cases d with
  | zero => rfl
  | succ d => rw [valN, if_neg (by omega), Int.toNat_natCast, List.getElem?_eq_none h]

/-- Where each step goes down, more steps than that tell nothing new. -/
theorem valN_stable {E : List Evt} {S : Nat → Int} (rk : Nat → Nat) (h1 : ∀ (i : Nat) (y : Evt), E[i]? = some y → (y.kind == 0) = true → ∀ j : Nat, S i = (j : Int) → j < E.length → rk j < rk i)
    (h2 : ∀ (i : Nat) (y : Evt), E[i]? = some y → (y.kind == 0) = false → (y.ins.op == 1) = true → ∀ j : Nat, srcG y (E.take i) 0 (-1) = (j : Int) → j < E.length → rk j < rk i) (m : Nat) :
    ∀ (i : Nat), rk i ≤ m → ∀ d d', rk i < d → rk i < d' → valN E S d (i : Int) = valN E S d' (i : Int) := by
  induction m with
  | zero =>
    intro i hi d d' hd hd'
    obtain ⟨d, rfl⟩ : ∃ k, d = k + 1 := ⟨d - 1, by omega⟩
    obtain ⟨d', rfl⟩ : ∃ k, d' = k + 1 := ⟨d' - 1, by omega⟩
    cases hy : E[i]? with
    | none =>
      have : E.length ≤ i := by simpa using hy
      rw [valN_out this, valN_out this]
    | some y =>
      have stop : ∀ s : Int, (∀ j : Nat, s = (j : Int) → j < E.length → rk j < rk i) → valN E S d s = valN E S d' s := by
        intro s hs
        by_cases hn : s < 0
        · rw [valN_neg _ _ _ hn, valN_neg _ _ _ hn]
        · obtain ⟨j, rfl⟩ := Int.eq_ofNat_of_zero_le (by omega : 0 ≤ s)
          by_cases hj : j < E.length
          · have := hs j rfl hj
            omega
          · rw [valN_out (by omega), valN_out (by omega)]
      cases hk : y.kind == 0
      · cases ho : y.ins.op == 1
        · rw [valN_else hy hk ho, valN_else hy hk ho]
        · rw [valN_copy hy hk ho, valN_copy hy hk ho]
          exact stop _ (h2 i y hy hk ho)
      · rw [valN_read hy hk, valN_read hy hk]
        exact stop _ (h1 i y hy hk)
  | succ m ih =>
    intro i hi d d' hd hd'
    obtain ⟨d, rfl⟩ : ∃ k, d = k + 1 := ⟨d - 1, by omega⟩
    obtain ⟨d', rfl⟩ : ∃ k, d' = k + 1 := ⟨d' - 1, by omega⟩
    cases hy : E[i]? with
    | none =>
      have : E.length ≤ i := by simpa using hy
      rw [valN_out this, valN_out this]
    | some y =>
      have step : ∀ s : Int, (∀ j : Nat, s = (j : Int) → j < E.length → rk j < rk i) → valN E S d s = valN E S d' s := by
        intro s hs
        by_cases hn : s < 0
        · rw [valN_neg _ _ _ hn, valN_neg _ _ _ hn]
        · obtain ⟨j, rfl⟩ := Int.eq_ofNat_of_zero_le (by omega : 0 ≤ s)
          by_cases hj : j < E.length
          · have := hs j rfl hj
            exact ih j (by omega) d d' (by omega) (by omega)
          · rw [valN_out (by omega), valN_out (by omega)]
      cases hk : y.kind == 0
      · cases ho : y.ins.op == 1
        · rw [valN_else hy hk ho, valN_else hy hk ho]
        · rw [valN_copy hy hk ho, valN_copy hy hk ho]
          exact step _ (h2 i y hy hk ho)
      · rw [valN_read hy hk, valN_read hy hk]
        exact step _ (h1 i y hy hk)

theorem valN_congr {E : List Evt} {S S' : Nat → Int} (h : ∀ (i : Nat) (y : Evt), E[i]? = some y → (y.kind == 0) = true → S i = S' i) (d : Nat) (i : Int) : valN E S d i = valN E S' d i := by
  induction d generalizing i with
  | zero => rfl
  | succ d ih =>
    by_cases hn : i < 0
    · rw [valN_neg _ _ _ hn, valN_neg _ _ _ hn]
    · obtain ⟨j, rfl⟩ := Int.eq_ofNat_of_zero_le (by omega : 0 ≤ i)
      cases hy : E[j]? with
      | none =>
        have : E.length ≤ j := by simpa using hy
        rw [valN_out this, valN_out this]
      | some y =>
        cases hk : y.kind == 0
        · cases ho : y.ins.op == 1
          · rw [valN_else hy hk ho, valN_else hy hk ho]
          · rw [valN_copy hy hk ho, valN_copy hy hk ho, ih]
        · rw [valN_read hy hk, valN_read hy hk, h j y hy hk, ih]

theorem srcG_spec (y : Evt) (l : List Evt) (i : Nat) (a : Int) (k : Nat) (h : srcG y l i a = (k : Int)) : a = (k : Int) ∨ (i ≤ k ∧ ∃ z, l[k - i]? = some z ∧ z.kind = 0 ∧ z.thread = y.thread ∧ z.ins.reg = y.ins.reg) := by
  induction l generalizing i a with
  | nil => exact .inl h
  | cons z l ih =>
    rw [srcG] at h
    rcases ih (i + 1) _ h with h1 | ⟨h1, z', h2, h3⟩
    · cases hz : z.kind == 0 && z.thread == y.thread && z.ins.reg == y.ins.reg
      · rw [hz] at h1; exact .inl (by simpa using h1)
      · rw [hz] at h1
        have h1' : (i : Int) = (k : Int) := by simpa using h1
        have hik : i = k := by omega
        subst hik
        simp only [Bool.and_eq_true, beq_iff_eq] at hz
        exact .inr ⟨Nat.le_refl _, z, by simp, hz.1.1, hz.1.2, hz.2⟩
    · refine .inr ⟨by omega, z', ?_, h3⟩
      rw [show k - i = (k - (i + 1)) + 1 by omega]
      simpa using h2

/-- From which event each one reads: the program's way. -/
def srcS (E : List Evt) (x : Exe) : Nat → Int := fun j => (srcL E x.from').getD j 0
/-- The document's way. -/
def frS (E : List Evt) (x : Exe) : Nat → Int := fun r => frG ((rdsX E 0).zip x.from') (r : Int)

theorem src_same {E : List Evt} (hl : E.length ≤ 96) (hloc : ∀ y ∈ E, locB y.loc = true) {x : Exe} (hx : IsEx E x) (i : Nat) (y : Evt) (hy : E[i]? = some y) (hk : (y.kind == 0) = true) : srcS E x i = frS E x i := by
  have hr := hx.ranks hl hloc
  have hk' : y.kind = 0 := by simpa using hk
  have hm : ((i, y), srcS E x i) ∈ (rdsX E 0).zip x.from' := (hr.zip i y _).2 ⟨hy, hk', rfl⟩
  unfold frS
  rcases frG_mem ((rdsX E 0).zip x.from') (i : Int) with h | ⟨⟨⟨r, z⟩, f⟩, h1, h2, h3⟩
  · have : ∀ (l : List ((Nat × Evt) × Int)), ((i, y), srcS E x i) ∈ l → ∃ q ∈ l, frG l (i : Int) = q.2 ∧ (q.1.1 : Int) = (i : Int) := by
      intro l
      induction l with
      | nil => intro h; cases h
      | cons q l ih =>
        intro hq
        cases hqi : ((q.1.1 : Int) == (i : Int))
        · rw [frG_mis hqi]
          rcases List.mem_cons.1 hq with e | e
          · rw [← e] at hqi; simp at hqi
          · obtain ⟨q', h1, h2⟩ := ih e
            exact ⟨q', List.mem_cons_of_mem _ h1, h2⟩
        · exact ⟨q, List.mem_cons_self .., frG_hit hqi _, by simpa using hqi⟩
    obtain ⟨⟨⟨r, z⟩, f⟩, h1, h2, h3⟩ := this _ hm
    have hri : r = i := by have h3' : (r : Int) = (i : Int) := h3
                           omega
    subst hri
    have := (hr.zip r z f).1 h1
    rw [h2]
    exact this.2.2
  · have hri : r = i := by have h3' : (r : Int) = (i : Int) := h3
                           omega
    subst hri
    have := (hr.zip r z f).1 h1
    rw [h2]
    exact this.2.2

/-- What is held in the end, each value by so many steps. -/
def staD (D k : Nat) (E : List Evt) (S : Nat → Int) (x : Exe) : List Int := ((List.range k).flatMap fun i : Nat => (List.range 3).map fun r : Nat => valN E S D (srcG (evtOf (i : Int) (r : Int)) E 0 (-1))) ++ (List.range 3).map fun j => match (x.order.getD j []).getLast? with
  | none => 0
  | some w => valN E S D w

theorem staL_D (k : Nat) (E : List Evt) (S : Nat → Int) (x : Exe) : staL k E S x = staD (2 * E.length) k E S x := rfl

theorem val_same {T : List (List Ins)} {E : List Evt} (hE : E = evsT T 0) (hl : E.length ≤ 96) (hloc : ∀ y ∈ E, locB y.loc = true) {x : Exe} (hx : IsEx E x) (hc : ¬ Cyc E.length (kepA T E x)) (i : Int) :
    valN E (srcS E x) E.length i = valN E (frS E x) (2 * E.length) i := by
  rw [valN_congr (fun i y hy hk => (src_same hl hloc hx i y hy hk).symm) (2 * E.length) i]
  obtain ⟨_, _, j3, _⟩ := judge_same' (ms := []) hE hl hloc hx
  obtain ⟨rk, hr1, hr2⟩ := rank_of (fun h => hc (j3.1 h))
  by_cases hn : i < 0
  · rw [valN_neg _ _ _ hn, valN_neg _ _ _ hn]
  · obtain ⟨j, rfl⟩ := Int.eq_ofNat_of_zero_le (by omega : 0 ≤ i)
    by_cases hj : j < E.length
    · refine valN_stable rk (fun i y hy _ a ha hal => ?_) (fun i y hy hk ho a ha hal => ?_) _ j (Nat.le_refl _) _ _ (hr1 j hj) (by have := hr1 j hj; omega)
      · have hi : i < E.length := (List.getElem?_eq_some_iff.1 hy).1
        refine hr2 a i hal hi ?_
        unfold kepQ exQ
        exact List.mem_append_left _ (allS_mem.2 ⟨hi, .inl ha⟩)
      · have hi : i < E.length := (List.getElem?_eq_some_iff.1 hy).1
        refine hr2 a i hal hi ?_
        unfold kepQ
        rcases srcG_spec y _ 0 (-1) a ha with h | ⟨_, z, h2, h3, h4, h5⟩
        · omega
        · rw [Nat.sub_zero] at h2
          have hai : a < i := by
            have := (List.getElem?_eq_some_iff.1 h2).1
            rw [List.length_take] at this; omega
          rw [List.getElem?_take_of_lt hai] at h2
          refine List.mem_append_right _ (allU_mem.2 ⟨hi, hai, ?_⟩)
          rw [pairB_get h2 hy]
          unfold keepQ cpyB
          rw [h4, ho, ha]
          simp
    · rw [valN_out (by omega), valN_out (by omega)]

theorem sta_same {T : List (List Ins)} {E : List Evt} (hE : E = evsT T 0) (hl : E.length ≤ 96) (hloc : ∀ y ∈ E, locB y.loc = true) {x : Exe} (hx : IsEx E x) (hc : ¬ Cyc E.length (kepA T E x)) (k : Nat) :
    staD E.length k E (srcS E x) x = staL k E (frS E x) x := by
  rw [staL_D]
  unfold staD
  have h := val_same hE hl hloc hx hc
  congr 1
  · congr 1
    funext i
    congr 1
    funext r
    exact h _
  · congr 1
    funext j
    split
    · rfl
    · exact h _

/-- Values are small. -/
theorem valN_small {E : List Evt} (hv : ∀ y ∈ E, 0 ≤ y.ins.val ∧ y.ins.val ≤ 1000) (S : Nat → Int) (d : Nat) (i : Int) : 0 ≤ valN E S d i ∧ valN E S d i ≤ 1000 := by
  induction d generalizing i with
  | zero => exact ⟨Int.le_refl _, by show (0 : Int) ≤ 1000; omega⟩
  | succ d ih =>
    by_cases hn : i < 0
    · rw [valN_neg _ _ _ hn]; omega
    · obtain ⟨j, rfl⟩ := Int.eq_ofNat_of_zero_le (by omega : 0 ≤ i)
      cases hy : E[j]? with
      | none =>
        have : E.length ≤ j := by simpa using hy
        rw [valN_out this]; omega
      | some y =>
        cases hk : y.kind == 0
        · cases ho : y.ins.op == 1
          · rw [valN_else hy hk ho]; exact hv y (List.mem_of_getElem? hy)
          · rw [valN_copy hy hk ho]; exact ih _
        · rw [valN_read hy hk]; exact ih _

theorem staL_len (k : Nat) (E : List Evt) (S : Nat → Int) (x : Exe) : (staL k E S x).length = 3 * k + 3 := by
  unfold staL
  rw [List.length_append, List.length_map, List.length_range]
  have : ((List.range k).flatMap fun i => (List.range 3).map (regV E S i)).length = 3 * k := by
    induction k with
    | zero => rfl
    | succ k ih => rw [List.range_succ (n := k), List.flatMap_append, List.length_append, ih]; simp; omega
  omega

theorem staL_small {E : List Evt} (hv : ∀ y ∈ E, 0 ≤ y.ins.val ∧ y.ins.val ≤ 1000) (k : Nat) (S : Nat → Int) (x : Exe) : ∀ a ∈ staL k E S x, 0 ≤ a ∧ a ≤ 1000 := by
  intro a ha
  unfold staL at ha
  rcases List.mem_append.1 ha with ha | ha
  · obtain ⟨i, _, hi⟩ := List.mem_flatMap.1 ha
    obtain ⟨r, _, rfl⟩ := List.mem_map.1 hi
    exact valN_small hv S _ _
  · obtain ⟨j, _, rfl⟩ := List.mem_map.1 ha
    unfold locV
    split
    · omega
    · exact valN_small hv S _ _

end Go.Proofs.YtomijmikkbhgmaaGreat
