import Derived.Test.YtomijmikkbhgmaaGreatT11
import Derived.Test.YtomijmikkbhgmaaGreatT25
import Derived.Test.YtomijmikkbhgmaaGreatT7
import Derived.Test.YtomijmikkbhgmaaGreatT22
import Derived.Test.YtomijmikkbhgmaaGreatT2
import Derived.Test.YtomijmikkbhgmaaGreatT23
import Derived.Test.YtomijmikkbhgmaaGreatT26
import Derived.Test.YtomijmikkbhgmaaGreatLm
import Derived.Test.YtomijmikkbhgmaaGreatT21
import Derived.Test.YtomijmikkbhgmaaGreatT8
namespace Go.Proofs.YtomijmikkbhgmaaGreat
open Go.RowKit

set_option maxRecDepth 20000 in
set_option maxHeartbeats 4000000 in
theorem valueOf_any (T : List (List Ins)) (hS : Short T) (vt : Value) (E : List Evt) (hE : E.length ≤ 96) (hin : EvsIn T E) (F : List Int) (hF : F.length = E.length) (hr : ∀ f ∈ F, EvI E.length f) (i : Int) (hi : EvI E.length i) (v vf : Value) (w : World) (ht : ThrAt w vt T) (h : Ev4At w v E) (hf : IntAt w vf F) :
    Calls Tryz.prog 75 #[vt, v, vf, .int .i64 i] w fun e w' => e = .returned (.int .i64 (valN E (fun j => F.getD j 0) E.length i)) ∧ Below w.heap.size w w' := by
  have HT : Hid (ThrAt w vt T ∧ Short T ∧ EvsIn T E) := ⟨ht, hS, hin⟩
  have HLR : Hid (∀ (j : Nat) (y : Evt) (w5 : World), j < E.length → Below w.heap.size w w5 → Calls Tryz.prog 74 #[vt, v, .int .i64 y.thread, .int .i64 y.ins.reg, .int .i64 j] w5 fun e w' => e = .returned (.int .i64 (srcG y (E.take j) 0 (-1))) ∧ Below w5.heap.size w5 w') := fun j y w5 hj hb => lastRead_any T hS vt E hE hin j (Nat.le_of_lt hj) y v w5 (ht.keep hb) (h.keep hb)
  have HSE : Hid (∀ (k : Nat) (y : Evt), k < E.length → EvI E.length (srcG y (E.take k) 0 (-1))) := fun k y hk => by
    rcases srcG_range y (E.take k) 0 (-1) (.inl rfl) with h | ⟨a, h1, h2⟩
    · exact .inl h
    · exact .inr ⟨a, h1, by rw [List.length_take] at h2; omega⟩
  obtain ⟨_, aoT, bT, offT, capT, hvT, _⟩ := ht
  obtain ⟨ao, b, off, cap, hv, ha, _, hc⟩ := h
  obtain ⟨aof, bf, offf, capf, hvf, haf, _, hcf⟩ := hf
  subst hv hvT hvf
  rw [hF]
  have HC : Hid (∀ k y, E[k]? = some y → Ev4C w b (off + k * 4) y) := hc
  have HFC : Hid (∀ k x, F[k]? = some x → w.cell? ⟨bf, offf + k, none⟩ = some (.int .i64 x)) := fun k x hx => by
    have := hcf k x hx
    unfold IntC at this
    rw [Nat.mul_one] at this; exact this
  have HFI : Hid (F.length = E.length ∧ ∀ f ∈ F, EvI E.length f) := ⟨hF, hr⟩
  have HVN : Hid (∀ (d : Nat) (i : Int), i < 0 → valN E (fun j => F.getD j 0) d i = 0) := fun d i hi => valN_neg _ _ _ hi
  have HV0 : Hid (∀ i : Int, valN E (fun j => F.getD j 0) 0 i = 0) := fun i => rfl
  have HVR : Hid (∀ (d k : Nat) (y : Evt) (f : Int), E[k]? = some y → F[k]? = some f → (y.kind == 0) = true → valN E (fun j => F.getD j 0) (d + 1) (k : Int) = valN E (fun j => F.getD j 0) d f) := fun d k y f hk hf hk0 => by rw [valN_read hk hk0, List.getD, hf]; rfl
  have HVC : Hid (∀ (d k : Nat) (y : Evt), E[k]? = some y → (y.kind == 0) = false → (y.ins.op == 1) = true → valN E (fun j => F.getD j 0) (d + 1) (k : Int) = valN E (fun j => F.getD j 0) d (srcG y (E.take k) 0 (-1))) := fun d k y hk h1 h2 => valN_copy hk h1 h2
  have HVE : Hid (∀ (d k : Nat) (y : Evt), E[k]? = some y → (y.kind == 0) = false → (y.ins.op == 1) = false → valN E (fun j => F.getD j 0) (d + 1) (k : Int) = y.ins.val) := fun d k y hk h1 h2 => valN_else hk h1 h2
  generalize hVV : (fun j => F.getD j 0) = S at HVN HV0 HVR HVC HVE ⊢
  generalize hBB : valN E S E.length i = B
  have HB : Hid (B = valN E S (E.length - 0) i) := hBB.symm
  clear hBB
  clear hc hcf hS hin hr hF hVV
  go_enter Tryz.func75, Tryz.ntmps75
  go_wp2_with fail
  go_loopw [9, 10] (fun at' s wr => ∃ (a : Int) (k : Nat), k ≤ E.length ∧ s = .int .i64 k ∧ at' = .int .i64 a ∧ Hid (B = valN E S (E.length - k) a ∧ EvI E.length a) ∧ Below w.heap.size w wr) (fun _ s _ => E.length - (intOf s).toNat)
  case atStart => exact ⟨i, 0, Nat.zero_le _, rfl, rfl, ⟨HB.out, hi⟩, Below.refl _ _⟩
  case round =>
    clear HB
    obtain ⟨a, k, hk, rfl, rfl, hn, hb⟩ := hrel
    by_cases hlt : k < E.length
    · have hkI : (k : Int) < (E.length : Int) := by omega
      obtain ⟨d, hd⟩ : ∃ d, E.length - k = d + 1 := ⟨E.length - k - 1, by omega⟩
      have hd2 : E.length - (k + 1) = d := by omega
      have HN : Hid (B = valN E S (d + 1) a ∧ EvI E.length a) := by rw [← hd]; exact hn
      clear hn
      rcases HN.out.2 with ha1 | ⟨j, ha1, hj⟩
      · have HM : Hid (B = 0) := HN.out.1.trans (HVN.out _ _ (by omega))
        subst ha1
        clear HN
        go_wp2_with fail
        go_ret
        exact ⟨by rw [HM.out]; rfl, hb⟩
      · subst ha1
        obtain ⟨y, hy⟩ := get_of_lt hj
        obtain ⟨f, hf⟩ := get_of_lt (l := F) (k := j) (by have := HFI.out.1; omega)
        obtain rfl := ha (ne_nil hj)
        obtain rfl := haf (ne_nil (k := j) (by have := HFI.out.1; omega))
        obtain ⟨c0, c1, c2, c3⟩ := ev4C_keeps _ _ _ _ _ hb (HC.out j y hy)
        have f0 := keep_cell hb (HFC.out j f hf)
        have m0 := World.block_lt_of_cell? _ _ c0
        have m1 := World.block_lt_of_cell? _ _ f0
        simp only at m0 m1
        have hjI : (j : Int) < (E.length : Int) := by omega
        have hj0 : ¬ ((E.length : Int) ≤ (j : Int)) := by omega
        have hj1 : decide ((j : Int) < 0) = false := by simp
        cases hk0 : y.kind == 0
        · obtain ⟨iz, pz, lz, hzi⟩ := HT.out.2.2 y (List.mem_of_getElem? hy)
          have HZ : Hid (∀ w5, Below w.heap.size w w5 → Calls Tryz.prog 120 #[.slice aoT T.length capT, e4V y] w5 fun e w' => e = .returned (.agg #[.int .i64 y.ins.op, .int .i64 y.ins.loc, .int .i64 y.ins.reg, .int .i64 y.ins.val, .int .i64 y.ins.mode]) ∧ Below w5.heap.size w5 w') :=
            fun w5 hb5 => instrEv_any T HT.out.2.1 _ y iz pz lz hzi w5 (HT.out.1.keep hb5)
          have HL1 : Hid (∀ w5, Below w.heap.size w w5 → Calls Tryz.prog 74 #[.slice aoT T.length capT, .slice (some ⟨b, off, none⟩) E.length cap, .int .i64 y.thread, .int .i64 y.ins.reg, .int .i64 j] w5 fun e w' => e = .returned (.int .i64 (srcG y (E.take j) 0 (-1))) ∧ Below w5.heap.size w5 w') := fun w5 hb5 => HLR.out j y w5 hj hb5
          have hsz := hb.size
          cases ho : y.ins.op == 1
          · have ho' : (y.ins.op != 1) = true := by simp [bne, ho]
            have HM : Hid (B = y.ins.val) := HN.out.1.trans (HVE.out d j y hy hk0 ho)
            clear HN HL1 hzi hy hf
            go_wp2_with fail
            refine (HZ.out _ hb).mono ?_
            rintro e w5 ⟨rfl, hb5⟩
            have hb6 := below_more hb hb5
            go_wp2_with fail
            go_ret
            exact ⟨by rw [HM.out]; rfl, hb6.alloc hb6.size _⟩
          · have ho' : (y.ins.op != 1) = false := by simp [bne, ho]
            have HM : Hid (B = valN E S d (srcG y (E.take j) 0 (-1)) ∧ EvI E.length (srcG y (E.take j) 0 (-1))) := ⟨HN.out.1.trans (HVC.out d j y hy hk0 ho), HSE.out j y hj⟩
            generalize srcG y (E.take j) 0 (-1) = sg at HM HL1
            clear HN hzi hy hf
            go_wp2_with fail
            refine (HZ.out _ hb).mono ?_
            rintro e w5 ⟨rfl, hb5⟩
            have hb6 := below_more hb hb5
            have hb7 := hb6.alloc hb6.size (.cells #[.int .i64 y.ins.op, .int .i64 y.ins.loc, .int .i64 y.ins.reg, .int .i64 y.ins.val, .int .i64 y.ins.mode] 48)
            have hb57 := below_more hb5 (below_alloc w5 (.cells #[.int .i64 y.ins.op, .int .i64 y.ins.loc, .int .i64 y.ins.reg, .int .i64 y.ins.val, .int .i64 y.ins.mode] 48))
            have d0 := keep_cell hb57 c0
            have d1 : (w5.alloc (.cells #[.int .i64 y.ins.op, .int .i64 y.ins.loc, .int .i64 y.ins.reg, .int .i64 y.ins.val, .int .i64 y.ins.mode] 48)).cell? ⟨w5.heap.size, 2, none⟩ = some (.int .i64 y.ins.reg) := by simp
            clear c0 c1 c2 c3 f0
            go_wp2_with fail
            generalize w5.alloc (.cells #[.int .i64 y.ins.op, .int .i64 y.ins.loc, .int .i64 y.ins.reg, .int .i64 y.ins.val, .int .i64 y.ins.mode] 48) = W7 at hb7 hb57 d0 d1 ⊢
            replace d0 := grown_cell d0
            replace d1 := grown_cell d1
            have hne := grw_some W7
            refine wp_region_grown (by kernel_rfl) (by kernel_rfl) ?_
            repeat (go_big_quiet_step ((go_at_call 74; exact grown_call (HL1.out _ (below_more hb7 (Grw.low _))))))
            refine wpQuiet_nil ?_
            intro w8 hw8
            obtain ⟨⟨w8', hb8⟩, rfl⟩ := hw8
            have hb9 := below_more hb7 hb8
            clear d0 d1
            go_wp2_with fail
            go_roundw
            case measure => simp [intOf]; omega
            case rel => exact ⟨sg, k + 1, by omega, by go_num, rfl, by rw [hd2]; exact HM.out, hb9⟩
        · have HM : Hid (B = valN E S d f ∧ EvI E.length f) := ⟨HN.out.1.trans (HVR.out d j y f hy hf hk0), HFI.out.2 f (List.mem_of_getElem? hf)⟩
          clear HN hy hf
          go_wp2_with fail
          go_roundw
          case measure => simp [intOf]; omega
          case rel => exact ⟨f, k + 1, by omega, by go_num, rfl, by rw [hd2]; exact HM.out, hb⟩
    · have HM : Hid (B = 0) := hn.out.1.trans (by rw [show E.length - k = 0 by omega]; exact HV0.out _)
      have hkI : (E.length : Int) ≤ (k : Int) := by omega
      clear hn
      go_wp2_with fail
      go_ret
      exact ⟨by rw [HM.out]; rfl, hb⟩

def lastI (l : List Int) : Int := match l.getLast? with
  | none => -1
  | some a => a

set_option maxRecDepth 20000 in
theorem lastOf_any (l : List Int) (hl : l.length ≤ 1000) (v : Value) (w : World) (h : IntAt w v l) :
    Calls Tryz.prog 76 #[v] w fun e w' => e = .returned (.int .i64 (lastI l)) ∧ Below w.heap.size w w' := by
  obtain ⟨ao, b, off, cap, hv, ha, _, hc⟩ := h
  subst hv
  by_cases hl0 : l = []
  · subst hl0
    clear hc ha
    go_enter Tryz.func76, Tryz.ntmps76
    go_wp2_with fail
    go_ret
    exact ⟨rfl, Below.refl _ _⟩
  · have hlp : 0 < l.length := List.length_pos_iff.2 hl0
    obtain ⟨a, hal1⟩ := get_of_lt (l := l) (k := l.length - 1) (by omega)
    obtain rfl := ha hl0
    have HLA : Hid (lastI l = a) := by show lastI l = a; unfold lastI; rw [List.getLast?_eq_getElem?, hal1]
    have q0 := hc _ _ hal1
    unfold IntC at q0
    rw [Nat.mul_one] at q0
    have hd1 : ((l.length : Int) == 0) = false := by simp; omega
    have hsub : (l.length : Int) - 1 = ((l.length - 1 : Nat) : Int) := by omega
    have hsubI : ((l.length - 1 : Nat) : Int) < (l.length : Int) := by omega
    have hsw : IntKind.i64.wrap ((l.length - 1 : Nat) : Int) = ((l.length - 1 : Nat) : Int) := by rw [IntKind.wrap_i64]; omega
    clear hc ha hal1
    generalize lastI l = B at HLA
    generalize l.length - 1 = l1 at *
    generalize l.length = ln at *
    go_enter Tryz.func76, Tryz.ntmps76
    go_wp2_with fail
    go_ret
    exact ⟨by rw [HLA.out]; rfl, Below.refl _ _⟩

end Go.Proofs.YtomijmikkbhgmaaGreat

namespace Go.Proofs.YtomijmikkbhgmaaGreat

/-- A row of numbers along which the arrows between them lead. -/
def Along (A : List (Int × Int)) (L : List Nat) : Prop := ∀ (i j a b : Nat), L[i]? = some a → L[j]? = some b → ((a : Int), (b : Int)) ∈ A → i < j

theorem along_of {n : Nat} {A : List (Int × Int)} (h : ¬ Cyc n A) (m : Nat) (S : List Nat) (hm : S.length = m) (hnd : S.Nodup) (hS : ∀ a ∈ S, a < n) : ∃ L : List Nat, L.Nodup ∧ (∀ a, a ∈ L ↔ a ∈ S) ∧ Along A L := by
  induction m generalizing S with
  | zero =>
    have : S = [] := List.eq_nil_of_length_eq_zero hm
    subst this
    exact ⟨[], List.nodup_nil, fun a => Iff.rfl, fun i j a b h => by simp at h⟩
  | succ m ih =>
    have hex : ∃ b ∈ S, ∀ a ∈ S, ((a : Int), (b : Int)) ∉ A := by
      refine Classical.byContradiction fun hno => h ⟨fun a => a ∈ S, ?_, fun b hb hbS => ?_⟩
      · obtain ⟨b, hb⟩ := List.exists_mem_of_length_pos (l := S) (by omega)
        exact ⟨b, hS b hb, hb⟩
      · refine Classical.byContradiction fun h2 => hno ⟨b, hbS, fun a ha hA => h2 ⟨a, hS a ha, ha, hA⟩⟩
    obtain ⟨b, hb, hfree⟩ := hex
    obtain ⟨L, h1, h2, h3⟩ := ih (S.erase b) (by rw [List.length_erase_of_mem hb]; omega) (hnd.erase b) (fun a ha => hS a (List.mem_of_mem_erase ha))
    have hbL : b ∉ L := fun hbL => (List.Nodup.not_mem_erase hnd) ((h2 b).1 hbL)
    refine ⟨b :: L, List.nodup_cons.2 ⟨hbL, h1⟩, fun a => ?_, fun i j a c hi hj hA => ?_⟩
    · rw [List.mem_cons, h2]
      constructor
      · rintro (rfl | h)
        · exact hb
        · exact List.mem_of_mem_erase h
      · intro ha
        by_cases e : a = b
        · exact .inl e
        · exact .inr ((List.mem_erase_of_ne e).2 ha)
    · have hmem : ∀ {k : Nat} {x : Nat}, (b :: L)[k]? = some x → x ∈ S := fun {k x} hk => by
        rcases List.mem_cons.1 (List.mem_of_getElem? hk) with rfl | hx
        · exact hb
        · exact List.mem_of_mem_erase ((h2 _).1 hx)
      cases j with
      | zero =>
        have hcb : b = c := by simpa using hj
        subst hcb
        exact absurd hA (hfree a (hmem hi))
      | succ j =>
        cases i with
        | zero => omega
        | succ i =>
          have := h3 i j a c (by simpa using hi) (by simpa using hj) hA
          omega

/-- All events, in one row. -/
theorem row_of {n : Nat} {A : List (Int × Int)} (h : ¬ Cyc n A) : ∃ L : List Nat, L.Nodup ∧ (∀ a, a ∈ L ↔ a < n) ∧ L.length = n ∧ Along A L := by
  obtain ⟨L, h1, h2, h3⟩ := along_of h n (List.range n) (by simp) List.nodup_range (fun a ha => by simpa using ha)
  have hm : ∀ a, a ∈ L ↔ a < n := fun a => by rw [h2]; simp
  refine ⟨L, h1, hm, ?_, h3⟩
  have e1 : L.length ≤ n := by
    have := nodup_le (nodup_cast h1) (m := (List.range n).map fun a : Nat => (a : Int)) (fun x hx => by
      obtain ⟨a, ha, rfl⟩ := List.mem_map.1 hx
      exact List.mem_map.2 ⟨a, by simpa using (hm a).1 ha, rfl⟩)
    simpa using this
  have e2 : n ≤ L.length := by
    have := nodup_le (nodup_cast (List.nodup_range (n := n))) (m := L.map fun a : Nat => (a : Int)) (fun x hx => by
      obtain ⟨a, ha, rfl⟩ := List.mem_map.1 hx
      exact List.mem_map.2 ⟨a, (hm a).2 (by simpa using ha), rfl⟩)
    simpa using this
  omega

/-- The place of an event in a row: along each arrow it grows. -/
theorem rank_of {n : Nat} {A : List (Int × Int)} (h : ¬ Cyc n A) : ∃ rk : Nat → Nat, (∀ a, a < n → rk a < n) ∧ ∀ a b : Nat, a < n → b < n → ((a : Int), (b : Int)) ∈ A → rk a < rk b := by
  obtain ⟨L, h1, h2, h3, h4⟩ := row_of h
  have hp : ∀ a, a < n → L[L.idxOf a]? = some a := fun a ha => by
    have hm := (h2 a).2 ha
    have hlt := List.idxOf_lt_length_of_mem hm
    rw [List.getElem?_eq_getElem hlt, List.getElem_idxOf]
  refine ⟨fun a => L.idxOf a, fun a ha => ?_, fun a b ha hb hA => h4 _ _ a b (hp a ha) (hp b hb) hA⟩
  have := List.idxOf_lt_length_of_mem ((h2 a).2 ha)
  show L.idxOf a < n
  omega

end Go.Proofs.YtomijmikkbhgmaaGreat

namespace Go.Proofs.YtomijmikkbhgmaaGreat

theorem valN_out {E : List Evt} {S : Nat → Int} {d j : Nat} (h : E.length ≤ j) : valN E S d (j : Int) = 0 := by
  cases d with
  | zero => rfl
  | succ d => rw [valN, if_neg (by omega), Int.toNat_natCast, List.getElem?_eq_none h]

/-- Where each step goes down, more steps than that tell nothing new. -/
theorem valN_stable {E : List Evt} {S : Nat → Int} (rk : Nat → Nat) (h1 : ∀ (i : Nat) (y : Evt), E[i]? = some y → (y.kind == 0) = true → ∀ j : Nat, S i = (j : Int) → j < E.length → rk j < rk i)
    (h2 : ∀ (i : Nat) (y : Evt), E[i]? = some y → (y.kind == 0) = false → (y.ins.op == 1) = true → ∀ j : Nat, srcG y (E.take i) 0 (-1) = (j : Int) → j < E.length → rk j < rk i) (m : Nat) :
    ∀ (i : Nat), rk i ≤ m → ∀ d d', rk i < d → rk i < d' → valN E S d (i : Int) = valN E S d' (i : Int) := by
  induction m with
  | zero =>
    intro i hi d d' hd hd'
    obtain ⟨d, rfl⟩ : ∃ k, d = k + 1 := ⟨d - 1, by omega⟩
    obtain ⟨d', rfl⟩ : ∃ k, d' = k + 1 := ⟨d' - 1, by omega⟩
    cases hy : E[i]? with
    | none =>
      have : E.length ≤ i := by simpa using hy
      rw [valN_out this, valN_out this]
    | some y =>
      have stop : ∀ s : Int, (∀ j : Nat, s = (j : Int) → j < E.length → rk j < rk i) → valN E S d s = valN E S d' s := by
        intro s hs
        by_cases hn : s < 0
        · rw [valN_neg _ _ _ hn, valN_neg _ _ _ hn]
        · obtain ⟨j, rfl⟩ := Int.eq_ofNat_of_zero_le (by omega : 0 ≤ s)
          by_cases hj : j < E.length
          · have := hs j rfl hj
            omega
          · rw [valN_out (by omega), valN_out (by omega)]
      cases hk : y.kind == 0
      · cases ho : y.ins.op == 1
        · rw [valN_else hy hk ho, valN_else hy hk ho]
        · rw [valN_copy hy hk ho, valN_copy hy hk ho]
          exact stop _ (h2 i y hy hk ho)
      · rw [valN_read hy hk, valN_read hy hk]
        exact stop _ (h1 i y hy hk)
  | succ m ih =>
    intro i hi d d' hd hd'
    obtain ⟨d, rfl⟩ : ∃ k, d = k + 1 := ⟨d - 1, by omega⟩
    obtain ⟨d', rfl⟩ : ∃ k, d' = k + 1 := ⟨d' - 1, by omega⟩
    cases hy : E[i]? with
    | none =>
      have : E.length ≤ i := by simpa using hy
      rw [valN_out this, valN_out this]
    | some y =>
      have step : ∀ s : Int, (∀ j : Nat, s = (j : Int) → j < E.length → rk j < rk i) → valN E S d s = valN E S d' s := by
        intro s hs
        by_cases hn : s < 0
        · rw [valN_neg _ _ _ hn, valN_neg _ _ _ hn]
        · obtain ⟨j, rfl⟩ := Int.eq_ofNat_of_zero_le (by omega : 0 ≤ s)
          by_cases hj : j < E.length
          · have := hs j rfl hj
            exact ih j (by omega) d d' (by omega) (by omega)
          · rw [valN_out (by omega), valN_out (by omega)]
      cases hk : y.kind == 0
      · cases ho : y.ins.op == 1
        · rw [valN_else hy hk ho, valN_else hy hk ho]
        · rw [valN_copy hy hk ho, valN_copy hy hk ho]
          exact step _ (h2 i y hy hk ho)
      · rw [valN_read hy hk, valN_read hy hk]
        exact step _ (h1 i y hy hk)

theorem valN_congr {E : List Evt} {S S' : Nat → Int} (h : ∀ (i : Nat) (y : Evt), E[i]? = some y → (y.kind == 0) = true → S i = S' i) (d : Nat) (i : Int) : valN E S d i = valN E S' d i := by
  induction d generalizing i with
  | zero => rfl
  | succ d ih =>
    by_cases hn : i < 0
    · rw [valN_neg _ _ _ hn, valN_neg _ _ _ hn]
    · obtain ⟨j, rfl⟩ := Int.eq_ofNat_of_zero_le (by omega : 0 ≤ i)
      cases hy : E[j]? with
      | none =>
        have : E.length ≤ j := by simpa using hy
        rw [valN_out this, valN_out this]
      | some y =>
        cases hk : y.kind == 0
        · cases ho : y.ins.op == 1
          · rw [valN_else hy hk ho, valN_else hy hk ho]
          · rw [valN_copy hy hk ho, valN_copy hy hk ho, ih]
        · rw [valN_read hy hk, valN_read hy hk, h j y hy hk, ih]

theorem srcG_spec (y : Evt) (l : List Evt) (i : Nat) (a : Int) (k : Nat) (h : srcG y l i a = (k : Int)) : a = (k : Int) ∨ (i ≤ k ∧ ∃ z, l[k - i]? = some z ∧ z.kind = 0 ∧ z.thread = y.thread ∧ z.ins.reg = y.ins.reg) := by
  induction l generalizing i a with
  | nil => exact .inl h
  | cons z l ih =>
    rw [srcG] at h
    rcases ih (i + 1) _ h with h1 | ⟨h1, z', h2, h3⟩
    · cases hz : z.kind == 0 && z.thread == y.thread && z.ins.reg == y.ins.reg
      · rw [hz] at h1; exact .inl (by simpa using h1)
      · rw [hz] at h1
        have h1' : (i : Int) = (k : Int) := by simpa using h1
        have hik : i = k := by omega
        subst hik
        simp only [Bool.and_eq_true, beq_iff_eq] at hz
        exact .inr ⟨Nat.le_refl _, z, by simp, hz.1.1, hz.1.2, hz.2⟩
    · refine .inr ⟨by omega, z', ?_, h3⟩
      rw [show k - i = (k - (i + 1)) + 1 by omega]
      simpa using h2

/-- From which event each one reads: the program's way. -/
def srcS (E : List Evt) (x : Exe) : Nat → Int := fun j => (srcL E x.from').getD j 0
/-- The document's way. -/
def frS (E : List Evt) (x : Exe) : Nat → Int := fun r => frG ((rdsX E 0).zip x.from') (r : Int)

theorem src_same {E : List Evt} (hl : E.length ≤ 96) (hloc : ∀ y ∈ E, locB y.loc = true) {x : Exe} (hx : IsEx E x) (i : Nat) (y : Evt) (hy : E[i]? = some y) (hk : (y.kind == 0) = true) : srcS E x i = frS E x i := by
  have hr := hx.ranks hl hloc
  have hk' : y.kind = 0 := by simpa using hk
  have hm : ((i, y), srcS E x i) ∈ (rdsX E 0).zip x.from' := (hr.zip i y _).2 ⟨hy, hk', rfl⟩
  unfold frS
  rcases frG_mem ((rdsX E 0).zip x.from') (i : Int) with h | ⟨⟨⟨r, z⟩, f⟩, h1, h2, h3⟩
  · have : ∀ (l : List ((Nat × Evt) × Int)), ((i, y), srcS E x i) ∈ l → ∃ q ∈ l, frG l (i : Int) = q.2 ∧ (q.1.1 : Int) = (i : Int) := by
      intro l
      induction l with
      | nil => intro h; cases h
      | cons q l ih =>
        intro hq
        cases hqi : ((q.1.1 : Int) == (i : Int))
        · rw [frG_mis hqi]
          rcases List.mem_cons.1 hq with e | e
          · rw [← e] at hqi; simp at hqi
          · obtain ⟨q', h1, h2⟩ := ih e
            exact ⟨q', List.mem_cons_of_mem _ h1, h2⟩
        · exact ⟨q, List.mem_cons_self .., frG_hit hqi _, by simpa using hqi⟩
    obtain ⟨⟨⟨r, z⟩, f⟩, h1, h2, h3⟩ := this _ hm
    have hri : r = i := by have h3' : (r : Int) = (i : Int) := h3
                           omega
    subst hri
    have := (hr.zip r z f).1 h1
    rw [h2]
    exact this.2.2
  · have hri : r = i := by have h3' : (r : Int) = (i : Int) := h3
                           omega
    subst hri
    have := (hr.zip r z f).1 h1
    rw [h2]
    exact this.2.2

/-- What is held in the end, each value by so many steps. -/
def staD (D k : Nat) (E : List Evt) (S : Nat → Int) (x : Exe) : List Int := ((List.range k).flatMap fun i : Nat => (List.range 3).map fun r : Nat => valN E S D (srcG (evtOf (i : Int) (r : Int)) E 0 (-1))) ++ (List.range 3).map fun j => match (x.order.getD j []).getLast? with
  | none => 0
  | some w => valN E S D w

theorem staL_D (k : Nat) (E : List Evt) (S : Nat → Int) (x : Exe) : staL k E S x = staD (2 * E.length) k E S x := rfl

theorem val_same {T : List (List Ins)} {E : List Evt} (hE : E = evsT T 0) (hl : E.length ≤ 96) (hloc : ∀ y ∈ E, locB y.loc = true) {x : Exe} (hx : IsEx E x) (hc : ¬ Cyc E.length (kepA T E x)) (i : Int) :
    valN E (srcS E x) E.length i = valN E (frS E x) (2 * E.length) i := by
  rw [valN_congr (fun i y hy hk => (src_same hl hloc hx i y hy hk).symm) (2 * E.length) i]
  obtain ⟨_, _, j3, _⟩ := judge_same' (ms := []) hE hl hloc hx
  obtain ⟨rk, hr1, hr2⟩ := rank_of (fun h => hc (j3.1 h))
  by_cases hn : i < 0
  · rw [valN_neg _ _ _ hn, valN_neg _ _ _ hn]
  · obtain ⟨j, rfl⟩ := Int.eq_ofNat_of_zero_le (by omega : 0 ≤ i)
    by_cases hj : j < E.length
    · refine valN_stable rk (fun i y hy _ a ha hal => ?_) (fun i y hy hk ho a ha hal => ?_) _ j (Nat.le_refl _) _ _ (hr1 j hj) (by have := hr1 j hj; omega)
      · have hi : i < E.length := (List.getElem?_eq_some_iff.1 hy).1
        refine hr2 a i hal hi ?_
        unfold kepQ exQ
        exact List.mem_append_left _ (allS_mem.2 ⟨hi, .inl ha⟩)
      · have hi : i < E.length := (List.getElem?_eq_some_iff.1 hy).1
        refine hr2 a i hal hi ?_
        unfold kepQ
        rcases srcG_spec y _ 0 (-1) a ha with h | ⟨_, z, h2, h3, h4, h5⟩
        · omega
        · rw [Nat.sub_zero] at h2
          have hai : a < i := by
            have := (List.getElem?_eq_some_iff.1 h2).1
            rw [List.length_take] at this; omega
          rw [List.getElem?_take_of_lt hai] at h2
          refine List.mem_append_right _ (allU_mem.2 ⟨hi, hai, ?_⟩)
          rw [pairB_get h2 hy]
          unfold keepQ cpyB
          rw [h4, ho, ha]
          simp
    · rw [valN_out (by omega), valN_out (by omega)]

theorem sta_same {T : List (List Ins)} {E : List Evt} (hE : E = evsT T 0) (hl : E.length ≤ 96) (hloc : ∀ y ∈ E, locB y.loc = true) {x : Exe} (hx : IsEx E x) (hc : ¬ Cyc E.length (kepA T E x)) (k : Nat) :
    staD E.length k E (srcS E x) x = staL k E (frS E x) x := by
  rw [staL_D]
  unfold staD
  have h := val_same hE hl hloc hx hc
  congr 1
  · congr 1
    funext i
    congr 1
    funext r
    exact h _
  · congr 1
    funext j
    split
    · rfl
    · exact h _

/-- Values are small. -/
theorem valN_small {E : List Evt} (hv : ∀ y ∈ E, 0 ≤ y.ins.val ∧ y.ins.val ≤ 1000) (S : Nat → Int) (d : Nat) (i : Int) : 0 ≤ valN E S d i ∧ valN E S d i ≤ 1000 := by
  induction d generalizing i with
  | zero => exact ⟨Int.le_refl _, by show (0 : Int) ≤ 1000; omega⟩
  | succ d ih =>
    by_cases hn : i < 0
    · rw [valN_neg _ _ _ hn]; omega
    · obtain ⟨j, rfl⟩ := Int.eq_ofNat_of_zero_le (by omega : 0 ≤ i)
      cases hy : E[j]? with
      | none =>
        have : E.length ≤ j := by simpa using hy
        rw [valN_out this]; omega
      | some y =>
        cases hk : y.kind == 0
        · cases ho : y.ins.op == 1
          · rw [valN_else hy hk ho]; exact hv y (List.mem_of_getElem? hy)
          · rw [valN_copy hy hk ho]; exact ih _
        · rw [valN_read hy hk]; exact ih _

theorem staL_len (k : Nat) (E : List Evt) (S : Nat → Int) (x : Exe) : (staL k E S x).length = 3 * k + 3 := by
  unfold staL
  rw [List.length_append, List.length_map, List.length_range]
  have : ((List.range k).flatMap fun i => (List.range 3).map (regV E S i)).length = 3 * k := by
    induction k with
    | zero => rfl
    | succ k ih => rw [List.range_succ (n := k), List.flatMap_append, List.length_append, ih]; simp; omega
  omega

theorem staL_small {E : List Evt} (hv : ∀ y ∈ E, 0 ≤ y.ins.val ∧ y.ins.val ≤ 1000) (k : Nat) (S : Nat → Int) (x : Exe) : ∀ a ∈ staL k E S x, 0 ≤ a ∧ a ≤ 1000 := by
  intro a ha
  unfold staL at ha
  rcases List.mem_append.1 ha with ha | ha
  · obtain ⟨i, _, hi⟩ := List.mem_flatMap.1 ha
    obtain ⟨r, _, rfl⟩ := List.mem_map.1 hi
    exact valN_small hv S _ _
  · obtain ⟨j, _, rfl⟩ := List.mem_map.1 ha
    unfold locV
    split
    · omega
    · exact valN_small hv S _ _

end Go.Proofs.YtomijmikkbhgmaaGreat

namespace Go.Proofs.YtomijmikkbhgmaaGreat

theorem picks_zip (E R : List Evt) (i : Nat) (F : List Int) (h : picks F (rdo E R)) : F.length = (rdsX R i).length ∧ ∀ q ∈ (rdsX R i).zip F, q.2 = -1 ∨ q.2 ∈ wrs E 0 q.1.2.loc := by
  induction R generalizing i F with
  | nil =>
    cases F with
    | nil => exact ⟨rfl, fun q hq => by simp [rdsX] at hq⟩
    | cons a F => exact absurd h (by simp [rdo, picks])
  | cons y R ih =>
    unfold rdo at h
    cases hk : y.kind == 0
    · rw [hk] at h
      rw [rdsX_mis hk]
      exact ih (i + 1) F (by simpa using h)
    · rw [hk] at h
      rw [rdsX_hit hk]
      cases F with
      | nil => exact absurd h (by simp [picks])
      | cons a F =>
        have h' : a ∈ -1 :: wrs E 0 y.loc ∧ picks F (rdo E R) := by simpa [picks] using h
        obtain ⟨k1, k2⟩ := ih (i + 1) F h'.2
        refine ⟨by simp [k1], fun q hq => ?_⟩
        rw [List.zip_cons_cons] at hq
        rcases List.mem_cons.1 hq with rfl | hq
        · rcases List.mem_cons.1 h'.1 with e | e
          · exact .inl e
          · exact .inr e
        · exact k2 q hq

theorem Drawn.isEx {E : List Evt} {x : Exe} (h : Drawn E x) : IsEx E x := by
  obtain ⟨h1, h2⟩ := picks_zip E E 0 x.from' h.f
  obtain ⟨a, b, c, ho, _⟩ := h.o
  refine ⟨h1, h2, by rw [ho]; rfl, fun j l hl => ?_⟩
  have hp := h.row hl
  exact ⟨hp.nodup_iff.2 (wrs_nodup E _), fun a => hp.mem_iff⟩

theorem exN_isEx (E : List Evt) (n : Nat) : IsEx E (exN E n) := (exN_drawn E n).isEx

theorem mayB_val {x : Ins} (h : mayB x = true) : 0 ≤ x.val ∧ x.val ≤ 1000 := by
  have h0 : valB x.val = true → 0 ≤ x.val ∧ x.val ≤ 1000 := fun e => by
    unfold valB at e
    simp only [Bool.and_eq_true, decide_eq_true_eq] at e
    omega
  have h1 : (x.val == 0) = true → 0 ≤ x.val ∧ x.val ≤ 1000 := fun e => by
    have : x.val = 0 := by simpa using e
    omega
  unfold mayB at h
  repeat' split at h
  all_goals first
    | (simp only [Bool.and_eq_true] at h; exact h0 h.1.2)
    | (simp only [Bool.and_eq_true] at h; exact h1 h.1.2)
    | simp at h

theorem insF_may {T : List (List Ins)} {i : Nat} (h : insF T i = none) : ∀ l ∈ T, ∀ x ∈ l, mayB x = true := by
  induction T generalizing i with
  | nil => simp
  | cons l T ih =>
    cases hb : badAt l 0 with
    | some j => rw [insF_bad hb] at h; cases h
    | none =>
      rw [insF_ok hb] at h
      intro m hm x hx
      rcases List.mem_cons.1 hm with rfl | hm
      · exact badAt_none hb x hx
      · exact ih h m hm x hx

theorem chk_may {T : List (List Ins)} {c : List Atm} (h : ((chk T c).1 == 0) = true) : ∀ l ∈ T, ∀ x ∈ l, mayB x = true := by
  unfold chk at h
  cases hs : sizeB T c
  · rw [hs] at h; simp at h
  · rw [hs] at h
    cases hi : insF T 0 with
    | none => exact insF_may hi
    | some p => rw [hi] at h; simp at h

theorem chk_atms {T : List (List Ins)} {c : List Atm} (h : ((chk T c).1 == 0) = true) : AtmsOk T.length c := by
  have hs := chk_zero h
  cases hi : insF T 0 with
  | some p => rw [chk_ins hs hi] at h; simp at h
  | none =>
    cases hn : nstF T 0 with
    | some p => rw [chk_nst hs hi hn] at h; simp at h
    | none =>
      cases ha : atmF c 0 T.length with
      | some p => rw [chk_atm hs hi hn ha] at h; simp at h
      | none => exact atms_ok ha

theorem chk_vals {T : List (List Ins)} {c : List Atm} (h : ((chk T c).1 == 0) = true) : ∀ y ∈ evsT T 0, 0 ≤ y.ins.val ∧ y.ins.val ≤ 1000 := by
  intro y hy
  obtain ⟨i, p, l, _, _, _, hl, hp, _⟩ := evsT_mem hy
  exact mayB_val (chk_may h l (List.mem_of_getElem? hl) y.ins (List.mem_of_getElem? hp))

end Go.Proofs.YtomijmikkbhgmaaGreat

namespace Go.Proofs.YtomijmikkbhgmaaGreat
open Go.RowKit

theorem IsEx.evI {E : List Evt} {x : Exe} (h : IsEx E x) : (∀ f ∈ x.from', EvI E.length f) ∧ ∀ l ∈ x.order, ∀ a ∈ l, EvI E.length a := by
  have hw : ∀ {a loc : Int}, a ∈ wrs E 0 loc → EvI E.length a := fun ha => by
    obtain ⟨i, y, h1, h2, _⟩ := wrs_iff.1 ha
    exact .inr ⟨i, h2, (List.getElem?_eq_some_iff.1 h1).1⟩
  constructor
  · intro f hf
    obtain ⟨j, hj⟩ := List.mem_iff_getElem?.1 hf
    have hjl : j < (rdsX E 0).length := by rw [← h.f]; exact (List.getElem?_eq_some_iff.1 hj).1
    obtain ⟨q, hq⟩ := get_of_lt hjl
    have hz : ((rdsX E 0).zip x.from')[j]? = some (q, f) := by rw [List.getElem?_zip_eq_some]; exact ⟨hq, hj⟩
    rcases h.fw (q, f) (List.mem_of_getElem? hz) with e | e
    · exact .inl e
    · exact hw e
  · intro l hl a ha
    obtain ⟨j, hj⟩ := List.mem_iff_getElem?.1 hl
    exact hw (((h.od j l hj).2 a).1 ha)

/-- What State tells, where Judge tells r and jr. -/
def SOut (T : List (List Ins)) (x : Exe) (B : Nat) (w : World) (r jr : Int) (u : Value) (er : Int) : Prop :=
  (jr ≠ 0 ∧ er = jr ∧ u = .slice none 0 0) ∨ (jr = 0 ∧ r ≠ 0 ∧ er = 8 ∧ u = .slice none 0 0) ∨
  (jr = 0 ∧ r = 0 ∧ er = 0 ∧ IntNew B w u (staL T.length (evsT T 0) (fun r => frG ((rdsX (evsT T 0) 0).zip x.from') (r : Int)) x))

theorem IntNew.less {B B' : Nat} {w : World} {v : Value} {l : List Int} (h : IntNew B w v l) (hb : B' ≤ B) : IntNew B' w v l := by
  obtain ⟨ao, b, off, cap, h, h1, h2⟩ := h
  exact ⟨ao, b, off, cap, h, Nat.le_trans hb h1, h2⟩

set_option maxRecDepth 20000 in
set_option maxHeartbeats 1000000 in
theorem stateR_of (T : List (List Ins)) (fa : Bool) (c : List Atm) (vt vc : Value) (x : Exe) (vf vo : Value) (w : World) (h : TestAt w (.agg #[vt, .bool fa, vc]) T fa c vt vc) (hx : ExeAt w vf vo x) (J : Int → Int → Prop)
    (hj : ∀ w', Below w.heap.size w w' → Calls Tryz.prog 31 #[.agg #[vt, .bool fa, vc], .agg #[vf, vo]] w' fun e w'' => ∃ r er : Int, e = .returned (.tuple #[.int .i64 r, .int .i64 er]) ∧ J r er ∧ Below w'.heap.size w' w'')
    (hj0 : ∀ r, J r 0 → T.length ≤ 4 ∧ lensB T = true ∧ (evsT T 0).length ≤ 96 ∧ IsEx (evsT T 0) x) :
    Calls Tryz.prog 19 #[.agg #[vt, .bool fa, vc], .agg #[vf, vo]] w fun e w' => ∃ (r jr : Int) (u : Value) (er : Int), e = .returned (.tuple #[u, .int .i64 er]) ∧ J r jr ∧ SOut T x w.heap.size w' r jr u er ∧ Below w.heap.size w w' := by
  have HT : Hid (TestAt w (.agg #[vt, .bool fa, vc]) T fa c vt vc ∧ ExeAt w vf vo x) := ⟨h, hx⟩
  have HJ : Hid (∀ w', Below w.heap.size w w' → Calls Tryz.prog 31 #[.agg #[vt, .bool fa, vc], .agg #[vf, vo]] w' fun e w'' => ∃ r er : Int, e = .returned (.tuple #[.int .i64 r, .int .i64 er]) ∧ J r er ∧ Below w'.heap.size w' w'') := hj
  have HJ0 : Hid (∀ r, J r 0 → T.length ≤ 4 ∧ lensB T = true ∧ (evsT T 0).length ≤ 96 ∧ IsEx (evsT T 0) x) := hj0
  clear h hx hj hj0
  go_enter Tryz.func19, Tryz.ntmps19
  go_wp2_with fail
  have hba := below_two w (.cells #[vt, .bool fa, vc] 25) (.cells #[vf, vo] 29)
  refine (HJ.out _ hba).mono ?_
  rintro e w3 ⟨r, jr, rfl, hjr, hb3⟩
  have hbw3 := below_more hba hb3
  have HK : Hid (∀ w', Below w3.heap.size w3 w' → w'.cell? ⟨w.heap.size, 0, none⟩ = some vt ∧ w'.cell? ⟨w.heap.size, 1, none⟩ = some (.bool fa) ∧ w'.cell? ⟨w.heap.size, 2, none⟩ = some vc ∧ w'.cell? ⟨w.heap.size + 1, 0, none⟩ = some vf ∧ w'.cell? ⟨w.heap.size + 1, 1, none⟩ = some vo) := fun w' hb => by
    have t0 := keep_cell hb3 (b := w.heap.size) (off := 0) (u := vt) (by simp)
    have t1 := keep_cell hb3 (b := w.heap.size) (off := 1) (u := .bool fa) (by simp)
    have t2 := keep_cell hb3 (b := w.heap.size) (off := 2) (u := vc) (by simp)
    have x0 := keep_cell hb3 (b := w.heap.size + 1) (off := 0) (u := vf) (by simp)
    have x1 := keep_cell hb3 (b := w.heap.size + 1) (off := 1) (u := vo) (by simp)
    exact ⟨keep_cell hb t0, keep_cell hb t1, keep_cell hb t2, keep_cell hb x0, keep_cell hb x1⟩
  have HJR : Hid (J r jr) := hjr
  clear hjr hb3 HJ
  cases hz : jr == 0
  · have hz2 : (jr != 0) = true := by simp [bne, hz]
    have hz3 : jr ≠ 0 := by simpa using hz
    go_wp2_with fail
    go_ret2
    exact ⟨r, jr, _, _, rfl, HJR.out, .inl ⟨hz3, rfl, rfl⟩, hbw3⟩
  · have hz2 : (jr != 0) = false := by simp [bne, hz]
    have hz3 : jr = 0 := by simpa using hz
    have HZ3 : Hid (jr = 0) := hz3
    clear hz3
    cases hr : r == 0
    · have hr2 : (r != 0) = true := by simp [bne, hr]
      have hr3 : r ≠ 0 := by simpa using hr
      go_wp2_with fail
      go_ret2
      exact ⟨r, jr, _, _, rfl, HJR.out, .inr (.inl ⟨HZ3.out, hr3, rfl, rfl⟩), hbw3⟩
    · have hr2 : (r != 0) = false := by simp [bne, hr]
      have HR3 : Hid (r = 0) := by have : r = 0 := by simpa using hr
                                   exact this
      have HEV : Hid (∀ w', Below w3.heap.size w3 w' → Calls Tryz.prog 42 #[.agg #[vt, .bool fa, vc]] w' fun e w'' => ∃ u, e = .returned u ∧ Ev9At w'' u (evsT T 0) ∧ Below w'.heap.size w' w'') := fun w' hb => by
        obtain ⟨h1, h2, h3, h4⟩ := HJ0.out r (by have := HJR.out; rwa [HZ3.out] at this)
        exact events_any T fa c _ vt vc w' (HT.out.1.keep (below_more hbw3 hb)) h1 h2
      have HST : Hid (∀ (u : Value) (w' : World), Below w3.heap.size w3 w' → Ev9At w' u (evsT T 0) → Calls Tryz.prog 41 #[.agg #[vt, .bool fa, vc], u, .agg #[vf, vo]] w' fun e w'' => ∃ v, e = .returned v ∧ IntNew w'.heap.size w'' v (staL T.length (evsT T 0) (fun r => frG ((rdsX (evsT T 0) 0).zip x.from') (r : Int)) x) ∧ Below w'.heap.size w' w'') := fun u w' hb hu => by
        obtain ⟨h1, h2, h3, h4⟩ := HJ0.out r (by have := HJR.out; rwa [HZ3.out] at this)
        refine state_any T h1 fa c vt vc (evsT T 0) h3 x h4.f h4.evI.1 h4.o3 (fun l hl => ⟨?_, h4.evI.2 l hl⟩) u vf vo w' (HT.out.1.keep (below_more hbw3 hb)) hu (HT.out.2.keep (below_more hbw3 hb))
        obtain ⟨j, hj⟩ := List.mem_iff_getElem?.1 hl
        exact h4.len h3 hj
      obtain ⟨t0, t1, t2, x0, x1⟩ := HK.out w3 (Below.refl _ _)
      have HS3 : Hid (w.heap.size ≤ w3.heap.size) := hbw3.size
      go_upto_region 6 with fail
      go_region_with (first | (go_at_call 42; refine (HEV.out _ (Below.refl _ _).drew).mono ?_; rintro e w5 ⟨u5, rfl, hu5, hb5⟩; have hbw5 := (Below.refl _ w3).drew.trans hb5; obtain ⟨f0, f1, f2, g0, g1⟩ := HK.out w5 hbw5) | (go_at_call 41; refine (HST.out _ _ hbw5 hu5).mono ?_; rintro e w6 ⟨u6, rfl, hu6, hb6⟩))
      all_goals
        go_wp2_with fail
        go_ret2
        exact ⟨r, jr, _, _, rfl, HJR.out, .inr (.inr ⟨HZ3.out, HR3.out, rfl, hu6.less (Nat.le_trans HS3.out hbw5.size)⟩), below_more (below_more hbw3 hbw5) hb6⟩

end Go.Proofs.YtomijmikkbhgmaaGreat

namespace Go.Proofs.YtomijmikkbhgmaaGreat
open Go.RowKit

theorem srcL_mem {E : List Evt} {F : List Int} {f : Int} (h : f ∈ srcL E F) : f = -1 ∨ f ∈ F := by
  induction E generalizing F with
  | nil => cases h
  | cons y E ih =>
    cases hk : y.kind == 0
    · rw [srcL_not hk] at h
      rcases List.mem_cons.1 h with h | h
      · exact .inl h
      · exact ih h
    · cases F with
      | nil =>
        rw [srcL_out hk] at h
        rcases List.mem_cons.1 h with h | h
        · exact .inl h
        · exact ih h
      | cons a F =>
        rw [srcL_read hk] at h
        rcases List.mem_cons.1 h with h | h
        · exact .inr (by rw [h]; exact List.mem_cons_self ..)
        · rcases ih h with h | h
          · exact .inl h
          · exact .inr (List.mem_cons_of_mem _ h)

/-- Numbers by threads and registers: those of the first i threads, and of the next one the first r. -/
def regF (f : Nat → Nat → Int) (i r : Nat) : List Int := ((List.range i).flatMap fun i => (List.range 3).map (f i)) ++ (List.range r).map (f i)
theorem regF_step (f : Nat → Nat → Int) (i r : Nat) : regF f i (r + 1) = regF f i r ++ [f i r] := by unfold regF; rw [List.range_succ (n := r), List.map_append]; simp
theorem regF_next (f : Nat → Nat → Int) (i : Nat) : regF f (i + 1) 0 = regF f i 3 := by unfold regF; rw [List.range_succ (n := i), List.flatMap_append]; simp
theorem regF_len (f : Nat → Nat → Int) (i r : Nat) : (regF f i r).length = 3 * i + r := by
  unfold regF
  rw [List.length_append, List.length_map, List.length_range, flat_len _ 3 (fun _ => by simp), List.length_range]; omega

def regD (D : Nat) (E : List Evt) (S : Nat → Int) (i r : Nat) : Int := valN E S D (srcG (evtOf (i : Int) (r : Int)) E 0 (-1))
def locD (D : Nat) (E : List Evt) (S : Nat → Int) (x : Exe) (j : Nat) : Int := match (x.order.getD j []).getLast? with
  | none => 0
  | some w => valN E S D w
theorem staD_parts (D k : Nat) (E : List Evt) (S : Nat → Int) (x : Exe) : staD D k E S x = regF (regD D E S) k 0 ++ (List.range 3).map (locD D E S x) := by
  unfold regF
  rw [List.range_zero, List.map_nil, List.append_nil]
  rfl

set_option maxRecDepth 20000 in
set_option maxHeartbeats 4000000 in
theorem stateOf_own (T : List (List Ins)) (hS : Short T) (vt : Value) (E : List Evt) (hE : E.length ≤ 96) (hin : EvsIn T E) (x : Exe) (hx : IsEx E x) (v vf vo : Value) (w : World) (ht : ThrAt w vt T) (hev : Ev4At w v E) (hxa : ExeAt w vf vo x) :
    Calls Tryz.prog 40 #[vt, v, .agg #[vf, vo]] w fun e w' => ∃ u, e = .returned u ∧ IntF w.heap.size w' u (staD E.length T.length E (srcS E x) x) ∧ Below w.heap.size w w' := by
  have hF96 : x.from'.length ≤ 96 := by have := hx.f; have := rdsX_len E 0; omega
  have hSl := srcL_len E x.from'
  have hSE : ∀ f ∈ srcL E x.from', EvI E.length f := fun f hf => by
    rcases srcL_mem hf with h | h
    · exact .inl h
    · exact hx.evI.1 f h
  have HSR : Hid (∀ w', Below w.heap.size w w' → Calls Tryz.prog 73 #[v, vf] w' fun e w'' => ∃ us, e = .returned us ∧ IntAt w'' us (srcL E x.from') ∧ Below w'.heap.size w' w'') := fun w' hb => by
    refine (sourcesJ_any E hE x.from' hF96 v vf w' (hev.keep hb) (hxa.f.keep hb)).mono ?_
    rintro e w'' ⟨he, hrow⟩
    have hl := hrow.list
    rw [range_getD _ _ hSl] at hl
    exact ⟨_, he, hl, hrow.hb⟩
  have HV : Hid (∀ (i : Int) (us : Value) (w' : World), EvI E.length i → Below w.heap.size w w' → IntAt w' us (srcL E x.from') → Calls Tryz.prog 75 #[vt, v, us, .int .i64 i] w' fun e w'' => e = .returned (.int .i64 (valN E (srcS E x) E.length i)) ∧ Below w'.heap.size w' w'') := fun i us w' hi hb hu => valueOf_any T hS vt E hE hin _ hSl hSE i hi v us w' (ht.keep hb) (hev.keep hb) hu
  have HH : Hid (∀ (i r : Nat) (w' : World), Below w.heap.size w w' → Calls Tryz.prog 74 #[vt, v, .int .i64 i, .int .i64 r, .int .i64 E.length] w' fun e w'' => e = .returned (.int .i64 (srcG (evtOf i r) E 0 (-1))) ∧ Below w'.heap.size w' w'') := fun i r w' hb => by
    have := lastRead_any T hS vt E hE hin E.length (Nat.le_refl _) (evtOf i r) v w' (ht.keep hb) (hev.keep hb)
    rw [List.take_length] at this
    exact this
  have HLO : Hid (∀ (l : List Int) (vl : Value) (w' : World), l.length ≤ 96 → IntAt w' vl l → Calls Tryz.prog 76 #[vl] w' fun e w'' => e = .returned (.int .i64 (lastI l)) ∧ Below w'.heap.size w' w'') := fun l vl w' hl hv => lastOf_any l (by omega) vl w' hv
  have HSRC : Hid (∀ i r : Nat, EvI E.length (srcG (evtOf i r) E 0 (-1))) := fun i r => srcE _
  have HRV : Hid (∀ i r : Nat, regD E.length E (srcS E x) i r = valN E (srcS E x) E.length (srcG (evtOf i r) E 0 (-1))) := fun _ _ => rfl
  have HST : Hid (staD E.length T.length E (srcS E x) x = regF (regD E.length E (srcS E x)) T.length 0 ++ (List.range 3).map (locD E.length E (srcS E x) x)) := staD_parts _ _ _ _ _
  have HLV : Hid (∀ (j : Nat) (l : List Int), x.order[j]? = some l → locD E.length E (srcS E x) x j = valN E (srcS E x) E.length (lastI l) ∧ EvI E.length (lastI l)) := fun j l hl => by
    unfold locD lastI
    rw [List.getD, hl]
    simp only [Option.getD_some]
    cases hg : l.getLast? with
    | none => exact ⟨(valN_neg E (srcS E x) E.length (i := -1) (by omega)).symm, .inl rfl⟩
    | some a => exact ⟨rfl, hx.evI.2 l (List.mem_of_getElem? hl) a (List.mem_of_getLast? hg)⟩
  have HL3 : Hid (x.order.length = 3 ∧ ∀ l ∈ x.order, l.length ≤ 96) := ⟨hx.o3, fun l hl => by
    obtain ⟨j, hj⟩ := List.mem_iff_getElem?.1 hl
    exact hx.len hE hj⟩
  have hT4 := hS.t4
  generalize srcL E x.from' = SL at *
  generalize srcS E x = S at *
  generalize staD E.length T.length E S x = STA at *
  generalize regD E.length E S = RD at *
  generalize locD E.length E S x = LD at *
  obtain ⟨aof, capf, hvf⟩ := hxa.f.form
  obtain ⟨aoo, bo, offo, capo, hvo, hao, _, hco⟩ := hxa.o
  have HO : Hid (∀ k l, x.order[k]? = some l → LC w bo (offo + k * 1) l) := hco
  obtain ⟨ao, b, off, cap, hv, ha, _, hc⟩ := hev
  obtain ⟨ht0, aot, bt, offt, capt, htv, _⟩ := ht.opened
  subst hv hvf hvo htv
  obtain rfl := hao (by intro h; have := HL3.out.1; rw [h] at this; simp at this)
  obtain ⟨i0, hi, hz0, hz1, hz2⟩ := info_parts Tryz.info3
  have HI : Hid (Tryz.prog.info? 3 = some i0 ∧ i0.zero = some (.int .i64 0) ∧ i0.size = 1 ∧ i0.bytes = 8) := ⟨hi, hz0, hz1, hz2⟩
  clear hi hz0 hz1 hz2 hx hc ha hco hao hin hSE hSl hF96 hxa ht
  go_enter Tryz.func40, Tryz.ntmps40
  go_wp2_with fail
  have hba := below_alloc w (.cells #[.slice aof x.from'.length capf, .slice (some ⟨bo, offo, none⟩) x.order.length capo] 29)
  refine (HSR.out _ hba).mono ?_
  rintro e W ⟨us, rfl, hus, hbW⟩
  have HUS : Hid (IntAt W us SL) := hus
  have x1 := keep_cell hbW (b := w.heap.size) (off := 1) (u := .slice (some ⟨bo, offo, none⟩) x.order.length capo) (by simp)
  have HX1 : Hid (W.cell? ⟨w.heap.size, 1, none⟩ = some (.slice (some ⟨bo, offo, none⟩) x.order.length capo)) := x1
  have hbaW := below_more hba hbW
  clear hus hbW x1 HSR
  go_wp2_with fail
  go_loopw [8, 23] (fun u i wr => ∃ k : Nat, k ≤ T.length ∧ i = .int .i64 k ∧ Hid (wr.ownsRow W.heap.size 3 1 u (regF RD k 0).length ((regF RD k 0).map (Value.int .i64))) ∧ Below W.heap.size W wr) (fun _ i _ => T.length - (intOf i).toNat)
  case atStart => exact ⟨0, Nat.zero_le _, rfl, World.ownsRow_nil _ _ _ _, Below.refl _ _⟩
  case round =>
    obtain ⟨k, hk, rfl, HOW, hb⟩ := hrel
    by_cases hlt : k < T.length
    · have hkI : (k : Int) < (T.length : Int) := by omega
      go_wp2_with fail
      go_loopw [8, 10] (fun u i wr => ∃ r : Nat, r ≤ 3 ∧ i = .int .i64 r ∧ Hid (wr.ownsRow W.heap.size 3 1 u (regF RD k r).length ((regF RD k r).map (Value.int .i64))) ∧ Below W.heap.size W wr) (fun _ i _ => 3 - (intOf i).toNat)
      case atStart => exact ⟨0, by omega, rfl, HOW.out, hb⟩
      case round =>
        clear HOW hb
        obtain ⟨r, hr3, rfl, hown, hb⟩ := hrel
        have hbw := below_more hbaW hb
        by_cases hr : r < 3
        · have hrI : (r : Int) < 3 := by omega
          have HSE : Hid (EvI E.length (srcG (evtOf k r) E 0 (-1))) := HSRC.out k r
          have HH1 := HH.out k r wr hbw
          have HR1 : Hid (regF RD k (r + 1) = regF RD k r ++ [valN E S E.length (srcG (evtOf k r) E 0 (-1))]) := by show _ = _; rw [regF_step, HRV.out]
          have hlen : (regF RD k r).length ≤ 100 := by rw [regF_len]; omega
          generalize srcG (evtOf k r) E 0 (-1) = sr at HSE HH1 HR1
          have HV1 : Hid (∀ w', Below wr.heap.size wr w' → Calls Tryz.prog 75 #[.slice aot T.length capt, .slice ao E.length cap, us, .int .i64 sr] w' fun e w'' => e = .returned (.int .i64 (valN E S E.length sr)) ∧ Below w'.heap.size w' w'') := fun w' hb' => HV.out sr us w' HSE.out (below_more hbw hb') (HUS.out.keep (below_more hb hb'))
          generalize valN E S E.length sr = val at HR1 HV1
          generalize regF RD k r = xs at hown HR1 hlen
          go_wp2_with fail
          refine HH1.mono ?_
          rintro e w6 ⟨rfl, hb6⟩
          clear HH1
          go_wp2_with fail
          refine (HV1.out w6 hb6).mono ?_
          rintro e w7 ⟨rfl, hb67⟩
          have hb7 := below_more hb6 hb67
          have HO7 : Hid (w7.ownsRow W.heap.size 3 1 u8 xs.length (xs.map (Value.int .i64))) := own_keep hown.out hb7
          have hb8 := below_more hb hb7
          have hs8 := hb8.size
          clear hb hb7 hb6 hb67
          go_wp2_with (at_builtin; refine append_new _ rfl _ _ 26 rfl W.heap.size 3 i0 (.int .i64 0) 1 8 Tryz.underlying26 HI.out.1 HI.out.2.1 HI.out.2.2.1 HI.out.2.2.2 rfl (by decide) _ xs.length (xs.map (Value.int .i64)) rfl (HO7.out.alloc _) (some ⟨w7.heap.size, 0, none⟩) 1 1 [.int .i64 val] rfl (fun h => by cases h) rfl (fun ad had => by cases had; exact new_one rfl) (by simp [Value.oneCell']) (by unfold maxLen; omega) (by omega) (by simp; omega) ?_)
          intro u' w9 hown' hgrow _
          have hb9 : Below W.heap.size W w9 := Below.grown (hb8.alloc hs8 _) hgrow (by simp; omega) (fun kk e => (HO7.out.lt kk e).1)
          have HO9 : Hid (w9.ownsRow W.heap.size 3 1 u' (regF RD k (r + 1)).length ((regF RD k (r + 1)).map (Value.int .i64))) := by rw [HR1.out]; exact own_snoc hown'
          clear hgrow hown'
          go_wp2_with fail
          go_roundw
          case measure => simp [intOf]; omega
          case rel => exact ⟨r + 1, by omega, by go_num, HO9.out, hb9⟩
        · have hr2 : r = 3 := by omega
          subst hr2
          have HO1 : Hid (wr.ownsRow W.heap.size 3 1 u8 (regF RD (k + 1) 0).length ((regF RD (k + 1) 0).map (Value.int .i64))) := by rw [regF_next]; exact hown.out
          clear hown
          go_wp2_with fail
          go_roundw
          case measure => simp [intOf]; omega
          case rel => exact ⟨k + 1, by omega, by go_num, HO1.out, hb⟩
    · have hkk : k = T.length := by omega
      have hkI : (T.length : Int) ≤ (k : Int) := by omega
      have HRG : Hid (STA = regF RD k 0 ++ (List.range 3).map LD) := by rw [hkk]; exact HST.out
      have hrgl : (regF RD k 0).length ≤ 100 := by rw [regF_len]; omega
      generalize regF RD k 0 = RG at HOW HRG hrgl
      clear hkk
      have HO0 : Hid (wr.ownsRow W.heap.size 3 1 u8 (RG ++ (List.range 0).map LD).length ((RG ++ (List.range 0).map LD).map (Value.int .i64))) := by
        show wr.ownsRow W.heap.size 3 1 u8 (RG ++ []).length ((RG ++ []).map (Value.int .i64))
        rw [List.append_nil]; exact HOW.out
      have x1 := keep_cell hb HX1.out
      clear HOW
      go_wp2_with fail
      clear x1
      go_loopw [8, 50] (fun u i wr => ∃ j : Nat, j ≤ 3 ∧ i = .int .i64 j ∧ Hid (wr.ownsRow W.heap.size 3 1 u (RG ++ (List.range j).map LD).length ((RG ++ (List.range j).map LD).map (Value.int .i64))) ∧ Below W.heap.size W wr) (fun _ i _ => 3 - (intOf i).toNat)
      case atStart => exact ⟨0, by omega, rfl, HO0.out, hb⟩
      case round =>
        clear HO0 hb
        obtain ⟨j, hj, rfl, hown, hb⟩ := hrel
        have hbw := below_more hbaW hb
        by_cases hj3 : j < 3
        · obtain ⟨l, hl⟩ := get_of_lt (l := x.order) (k := j) (by have := HL3.out.1; omega)
          have hl96 := HL3.out.2 l (List.mem_of_getElem? hl)
          obtain ⟨ul, c0, ivl⟩ := lc_keeps _ _ _ _ _ hbw (HO.out j l hl)
          rw [Nat.mul_one] at c0
          obtain ⟨aol, capl, hvl⟩ := ivl.form
          subst hvl
          have hjI : (j : Int) < (x.order.length : Int) := by have := HL3.out.1; omega
          obtain ⟨hlv, hle⟩ := HLV.out j l hl
          have HLS : Hid (RG ++ (List.range (j + 1)).map LD = (RG ++ (List.range j).map LD) ++ [valN E S E.length (lastI l)]) := by show _ = _; rw [List.range_succ (n := j), List.map_append, ← hlv]; simp
          have hxsl : (RG ++ (List.range j).map LD).length ≤ 200 := by rw [List.length_append, List.length_map, List.length_range]; omega
          have HL1 := HLO.out l (.slice aol l.length capl) wr hl96 ivl
          have HLE : Hid (EvI E.length (lastI l)) := hle
          generalize RG ++ (List.range j).map LD = xs at hown HLS hxsl
          generalize lastI l = la at HLS HL1 HLE
          have HV1 : Hid (∀ w', Below wr.heap.size wr w' → Calls Tryz.prog 75 #[.slice aot T.length capt, .slice ao E.length cap, us, .int .i64 la] w' fun e w'' => e = .returned (.int .i64 (valN E S E.length la)) ∧ Below w'.heap.size w' w'') := fun w' hb' => HV.out la us w' HLE.out (below_more hbw hb') (HUS.out.keep (below_more hb hb'))
          generalize valN E S E.length la = val at HLS HV1
          clear ivl hl hlv hle
          go_wp2_with fail
          refine HL1.mono ?_
          rintro e w6 ⟨rfl, hb6⟩
          clear HL1
          go_wp2_with fail
          refine (HV1.out w6 hb6).mono ?_
          rintro e w7 ⟨rfl, hb67⟩
          have hb7 := below_more hb6 hb67
          have HO7 : Hid (w7.ownsRow W.heap.size 3 1 u8 xs.length (xs.map (Value.int .i64))) := own_keep hown.out hb7
          have hb8 := below_more hb hb7
          have hs8 := hb8.size
          clear hb hb7 hb6 hb67 c0
          go_wp2_with (at_builtin; refine append_new _ rfl _ _ 26 rfl W.heap.size 3 i0 (.int .i64 0) 1 8 Tryz.underlying26 HI.out.1 HI.out.2.1 HI.out.2.2.1 HI.out.2.2.2 rfl (by decide) _ xs.length (xs.map (Value.int .i64)) rfl (HO7.out.alloc _) (some ⟨w7.heap.size, 0, none⟩) 1 1 [.int .i64 val] rfl (fun h => by cases h) rfl (fun ad had => by cases had; exact new_one rfl) (by simp [Value.oneCell']) (by unfold maxLen; omega) (by omega) (by simp; omega) ?_)
          intro u' w9 hown' hgrow _
          have hb9 : Below W.heap.size W w9 := Below.grown (hb8.alloc hs8 _) hgrow (by simp; omega) (fun kk e => (HO7.out.lt kk e).1)
          have HO9 : Hid (w9.ownsRow W.heap.size 3 1 u' (RG ++ (List.range (j + 1)).map LD).length ((RG ++ (List.range (j + 1)).map LD).map (Value.int .i64))) := by rw [HLS.out]; exact own_snoc hown'
          clear hgrow hown'
          go_wp2_with fail
          go_roundw
          case measure => simp [intOf]; omega
          case rel => exact ⟨j + 1, by omega, by go_num, HO9.out, hb9⟩
        · have hj2 : j = 3 := by omega
          subst hj2
          have hjI : (x.order.length : Int) ≤ 3 := by have := HL3.out.1; omega
          have hjI2 : ¬ ((3 : Int) < (x.order.length : Int)) := by omega
          go_wp2_with fail
          go_ret
          have hsz := hbaW.size
          exact ⟨_, rfl, by rw [HRG.out]; exact own_base hown.out hsz, hbw⟩

end Go.Proofs.YtomijmikkbhgmaaGreat
