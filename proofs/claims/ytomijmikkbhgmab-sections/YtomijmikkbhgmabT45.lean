import Derived.Test.YtomijmikkbhgmabT41
import Derived.Test.YtomijmikkbhgmabLt
import Derived.Test.YtomijmikkbhgmabUe
namespace Go.Proofs.Ytomijmikkbhgmab
open Go.RowKit

def pick2 (c : Int) : Int := (if c < 0 then -(c + 1) else c) % 2
def patL (L : List Int) : List Int := (L.take 3).map pick2
def I64 (L : List Int) : Prop := ∀ x ∈ L, -9223372036854775808 ≤ x ∧ x < 9223372036854775808

theorem pick2_or (c : Int) : pick2 c = 0 ∨ pick2 c = 1 := by unfold pick2; omega
theorem patL_len (L : List Int) : (patL L).length = min 3 L.length := by unfold patL; simp
theorem patL_get {L : List Int} {k : Nat} {x : Int} (h : L[k]? = some x) (hk : k < 3) : (patL L)[k]? = some (pick2 x) := by
  unfold patL
  rw [List.getElem?_map, List.getElem?_take_of_lt hk, h]
  rfl
theorem patL_mem (L : List Int) : patL L ∈ pats := by
  have h1 := patL_len L
  have h2 : ∀ x ∈ patL L, x = 0 ∨ x = 1 := fun x hx => by
    unfold patL at hx
    obtain ⟨c, _, rfl⟩ := List.mem_map.1 hx
    exact pick2_or c
  generalize patL L = p at h1 h2
  match p, h1, h2 with
  | [], _, _ => decide
  | [a], _, h => rcases h a (by simp) with rfl | rfl <;> decide
  | [a, b], _, h => rcases h a (by simp) with rfl | rfl <;> rcases h b (by simp) with rfl | rfl <;> decide
  | [a, b, c], _, h => rcases h a (by simp) with rfl | rfl <;> rcases h b (by simp) with rfl | rfl <;> rcases h c (by simp) with rfl | rfl <;> decide
  | a :: b :: c :: d :: p, h, _ => simp at h; omega

set_option maxRecDepth 20000 in
theorem pick2_any (c : Int) (hc : -9223372036854775808 ≤ c ∧ c < 9223372036854775808) (w : World) : Calls Try.prog 12 #[.int .i64 c, .int .i64 2] w fun e w' => e = .returned (.int .i64 (pick2 c)) ∧ Below w.heap.size w w' := by
  by_cases h0 : c < 0
  · obtain ⟨d, hd⟩ := Int.eq_ofNat_of_zero_le (show 0 ≤ -(c + 1) by omega)
    have e0 : decide (c < 0) = true := by simpa using h0
    have e1 : IntKind.i64.wrap (c + 1) = c + 1 := by rw [IntKind.wrap_i64]; omega
    have e2 : IntKind.i64.wrap (-(c + 1)) = (d : Int) := by rw [IntKind.wrap_i64, hd]; omega
    have er : (d : Int) % 2 = ((d % 2 : Nat) : Int) := by simp
    have HP : Hid (pick2 c = ((d % 2 : Nat) : Int)) := by unfold Hid pick2; rw [if_pos h0, hd]; simp
    generalize d % 2 = r at er HP
    clear hd
    go_enter Try.func12, Try.ntmps12
    go_wp2_with fail
    go_ret
    exact ⟨by rw [HP.out]; exact ret_int er, Below.refl _ _⟩
  · obtain ⟨d, rfl⟩ := Int.eq_ofNat_of_zero_le (show 0 ≤ c by omega)
    have er : (d : Int) % 2 = ((d % 2 : Nat) : Int) := by simp
    have HP : Hid (pick2 (d : Int) = ((d % 2 : Nat) : Int)) := by unfold Hid pick2; rw [if_neg h0]; simp
    generalize d % 2 = r at er HP
    go_enter Try.func12, Try.ntmps12
    go_wp2_with fail
    go_ret
    exact ⟨by rw [HP.out]; first | rfl | exact ret_int er, Below.refl _ _⟩

theorem rdL_snoc (p : List Int) (a : Int) (k : Nat) : rdL (p ++ [a]) k = rdL p k ++ [⟨2, a, ((k + p.length : Nat) : Int), 0, 0⟩] := by
  induction p generalizing k with
  | nil => rfl
  | cons b p ih => rw [List.cons_append, rdL, ih, rdL, List.cons_append, List.length_cons, show k + 1 + p.length = k + (p.length + 1) by omega]

/-- What a reader has so far. -/
def rdK (p : List Int) (k : Nat) : List Ins := ⟨5, 0, 0, 0, 0⟩ :: rdL (p.take k) 0
theorem rdK_step {p : List Int} {k : Nat} {x : Int} (h : p[k]? = some x) : rdK p (k + 1) = rdK p k ++ [⟨2, x, (k : Int), 0, 0⟩] := by
  have hk := (List.getElem?_eq_some_iff.1 h).1
  unfold rdK
  rw [take_snoc h, rdL_snoc, List.length_take, Nat.min_eq_left (by omega), Nat.zero_add, List.cons_append]
theorem rdL_len (p : List Int) (k : Nat) : (rdL p k).length = p.length := by
  induction p generalizing k with
  | nil => rfl
  | cons a p ih => rw [rdL, List.length_cons, List.length_cons, ih]
theorem rdK_len {p : List Int} {k : Nat} (hk : k ≤ p.length) : (rdK p k).length = k + 1 := by
  unfold rdK
  rw [List.length_cons, rdL_len, List.length_take, Nat.min_eq_left hk]

set_option maxRecDepth 20000 in
set_option maxHeartbeats 2000000 in
theorem reader_any (L : List Int) (hL : L.length ≤ 4000000000000000000) (hI : I64 L) (v : Value) (w : World) (h : IntAt w v L) :
    Calls Try.prog 18 #[v] w fun e w' => ∃ u, e = .returned u ∧ InsAt w' u (rdrT (patL L)) ∧ Below w.heap.size w w' := by
  obtain ⟨ao, b, off, cap, hv, ha, _, hc⟩ := h
  subst hv
  obtain ⟨i5, hi5, hy0, hy1, hy2⟩ := info_parts Try.infoInstr
  have HI5 : Hid (Try.prog.info? 37 = some i5 ∧ i5.zero = some (.agg #[.int .i64 0, .int .i64 0, .int .i64 0, .int .i64 0, .int .i64 0]) ∧ i5.size = 5 ∧ i5.bytes = 40) := ⟨hi5, hy0, hy1, hy2⟩
  clear hi5 hy0 hy1 hy2
  have HC : Hid ((∀ k x, L[k]? = some x → IntC w b (off + k * 1) x) ∧ I64 L) := ⟨hc, hI⟩
  clear hc hI
  go_enter Try.func18, Try.ntmps18
  go_wp2_with fail
  have HST : Hid ((w.alloc (.cells #[.int .i64 5, .int .i64 0, .int .i64 0, .int .i64 0, .int .i64 0] 37)).ownsRow w.heap.size 37 5 (.slice (some ⟨w.heap.size, 0, none⟩) 1 1) 1 ((rdK (patL L) 0).flatMap insV)) := by
    have := World.ownsRow_lit (base := w.heap.size) (e := 37) (size := 5) w #[.int .i64 5, .int .i64 0, .int .i64 0, .int .i64 0, .int .i64 0] 1 (Nat.le_refl _) (by unfold maxLen; omega) rfl
    exact this
  go_loopw [3, 4] (fun s i wr => ∃ (k : Nat) (aoV : Option Addr) (capV : Nat), k ≤ 3 ∧ k ≤ L.length ∧ i = .int .i64 k ∧ s = .slice aoV (k + 1) capV ∧ Hid (wr.ownsRow w.heap.size 37 5 (.slice aoV (k + 1) capV) (k + 1) ((rdK (patL L) k).flatMap insV)) ∧ Below w.heap.size w wr) (fun _ i _ => 3 - (intOf i).toNat)
  case atStart => exact ⟨0, _, _, Nat.zero_le _, Nat.zero_le _, rfl, rfl, HST, below_alloc w _⟩
  case round =>
    obtain ⟨k, aoV, capV, hk3, hkL, rfl, rfl, HO, hb⟩ := hrel
    have hsr := hb.size
    have fin : ∀ (_ : k = (patL L).length), Hid ((rdrT (patL L)).flatMap insV = (rdK (patL L) k).flatMap insV ++ [.int .i64 6, .int .i64 0, .int .i64 0, .int .i64 0, .int .i64 0] ∧ (rdrT (patL L)).length = k + 1 + 1) := fun e => by
      have e1 : rdrT (patL L) = rdK (patL L) k ++ [⟨6, 0, 0, 0, 0⟩] := by
        unfold rdrT rdK
        rw [e, List.take_length]
      refine ⟨by rw [e1, List.flatMap_append]; rfl, by rw [e1, List.length_append, rdK_len (by omega)]; rfl⟩
    have HFIN : Hid (∀ (_ : k = (patL L).length), Hid ((rdrT (patL L)).flatMap insV = (rdK (patL L) k).flatMap insV ++ [.int .i64 6, .int .i64 0, .int .i64 0, .int .i64 0, .int .i64 0] ∧ (rdrT (patL L)).length = k + 1 + 1)) := fin
    clear fin
    have HPL : Hid ((patL L).length = min 3 L.length) := patL_len L
    by_cases hlt : k < L.length
    · have hkI : (k : Int) < (L.length : Int) := by omega
      by_cases h3 : k < 3
      · have hkI3 : (k : Int) < 3 := by omega
        obtain ⟨x, hx⟩ := get_of_lt hlt
        obtain rfl := ha (ne_nil hlt)
        have c0 : wr.cell? ⟨b, off + k, none⟩ = some (.int .i64 x) := by
          have := keep_cell hb (HC.out.1 k x hx)
          rw [Nat.mul_one] at this
          exact this
        have HPK : Hid (Calls Try.prog 12 #[.int .i64 x, .int .i64 2] wr fun e w'' => e = .returned (.int .i64 (pick2 x)) ∧ Below wr.heap.size wr w'') := pick2_any x (HC.out.2 x (List.mem_of_getElem? hx)) wr
        have HST2 : Hid ((rdK (patL L) (k + 1)).flatMap insV = (rdK (patL L) k).flatMap insV ++ [.int .i64 2, .int .i64 (pick2 x), .int .i64 k, .int .i64 0, .int .i64 0]) := by
          unfold Hid
          rw [rdK_step (patL_get hx h3), List.flatMap_append]
          rfl
        generalize pick2 x = px at *
        clear hx
        go_wp2_with fail
        refine HPK.out.mono ?_
        rintro e w5 ⟨rfl, hb5⟩
        have HO5 : Hid (w5.ownsRow w.heap.size 37 5 (.slice aoV (k + 1) capV) (k + 1) ((rdK (patL L) k).flatMap insV)) := own_keep HO.out hb5
        have hb15 : Below w.heap.size w w5 := below_more hb hb5
        have hs5 := hb15.size
        clear HO hb5 c0 HPK
        go_wp2_with (at_builtin; refine append_new _ rfl (.tmp 17) (.tmp 25) 34 rfl w.heap.size 37 i5 (.agg #[.int .i64 0, .int .i64 0, .int .i64 0, .int .i64 0, .int .i64 0]) 5 40 Try.underlying34 HI5.out.1 HI5.out.2.1 HI5.out.2.2.1 HI5.out.2.2.2 rfl (by decide) (.slice aoV (k + 1) capV) (k + 1) ((rdK (patL L) k).flatMap insV) rfl (HO5.out.alloc _) (some ⟨w5.heap.size, 0, none⟩) 1 1 [.int .i64 2, .int .i64 px, .int .i64 k, .int .i64 0, .int .i64 0] rfl (fun h => by cases h) rfl (fun ad had => by cases had; exact new_many rfl) (by simp [Value.oneCell']) (by unfold maxLen; omega) (by omega) (by simp; omega) ?_)
        intro v2 w6 hown2 hgrow2 _
        rw [← HST2.out] at hown2
        obtain ⟨ao6, cap6, hv6, _⟩ := own_form hown2
        subst hv6
        have hb6 : Below w.heap.size w w6 := Below.grown (hb15.alloc hs5 _) hgrow2 (by simp; omega) (fun j e => (HO5.out.lt j e).1)
        have HO6 : Hid (w6.ownsRow w.heap.size 37 5 (.slice ao6 (k + 1 + 1) cap6) (k + 1 + 1) ((rdK (patL L) (k + 1)).flatMap insV)) := hown2
        clear hown2 hgrow2 HO5
        go_wp2_with fail
        go_roundw
        case measure => simp [intOf]; omega
        case rel => exact ⟨k + 1, ao6, cap6, by omega, by omega, by go_num, rfl, HO6.out, hb6⟩
      · have hkI3 : ¬ (k : Int) < 3 := by omega
        have HF := HFIN.out (by rw [HPL.out]; omega)
        go_wp2_with (at_builtin; refine append_new _ rfl (.tmp 27) (.tmp 29) 34 rfl w.heap.size 37 i5 (.agg #[.int .i64 0, .int .i64 0, .int .i64 0, .int .i64 0, .int .i64 0]) 5 40 Try.underlying34 HI5.out.1 HI5.out.2.1 HI5.out.2.2.1 HI5.out.2.2.2 rfl (by decide) (.slice aoV (k + 1) capV) (k + 1) ((rdK (patL L) k).flatMap insV) rfl (HO.out.alloc _) (some ⟨wr.heap.size, 0, none⟩) 1 1 [.int .i64 6, .int .i64 0, .int .i64 0, .int .i64 0, .int .i64 0] rfl (fun h => by cases h) rfl (fun ad had => by cases had; exact new_many rfl) (by simp [Value.oneCell']) (by unfold maxLen; omega) (by omega) (by simp; omega) ?_)
        intro v2 w6 hown2 hgrow2 _
        have hb6 : Below w.heap.size w w6 := Below.grown (hb.alloc hsr _) hgrow2 (by simp; omega) (fun j e => (HO.out.lt j e).1)
        have HO6 : Hid (InsAt w6 v2 (rdrT (patL L))) := owns_ins (base := w.heap.size) (e := 37) (by rw [HF.out.2]; omega) (by rw [HF.out.1, HF.out.2]; exact hown2)
        clear hown2 hgrow2
        go_wp2_with fail
        go_ret
        exact ⟨_, rfl, HO6.out, hb6⟩
    · have hkI : ¬ (k : Int) < (L.length : Int) := by omega
      have HF := HFIN.out (by rw [HPL.out]; omega)
      go_wp2_with (at_builtin; refine append_new _ rfl (.tmp 27) (.tmp 29) 34 rfl w.heap.size 37 i5 (.agg #[.int .i64 0, .int .i64 0, .int .i64 0, .int .i64 0, .int .i64 0]) 5 40 Try.underlying34 HI5.out.1 HI5.out.2.1 HI5.out.2.2.1 HI5.out.2.2.2 rfl (by decide) (.slice aoV (k + 1) capV) (k + 1) ((rdK (patL L) k).flatMap insV) rfl (HO.out.alloc _) (some ⟨wr.heap.size, 0, none⟩) 1 1 [.int .i64 6, .int .i64 0, .int .i64 0, .int .i64 0, .int .i64 0] rfl (fun h => by cases h) rfl (fun ad had => by cases had; exact new_many rfl) (by simp [Value.oneCell']) (by unfold maxLen; omega) (by omega) (by simp; omega) ?_)
      intro v2 w6 hown2 hgrow2 _
      have hb6 : Below w.heap.size w w6 := Below.grown (hb.alloc hsr _) hgrow2 (by simp; omega) (fun j e => (HO.out.lt j e).1)
      have HO6 : Hid (InsAt w6 v2 (rdrT (patL L))) := owns_ins (base := w.heap.size) (e := 37) (by rw [HF.out.2]; omega) (by rw [HF.out.1, HF.out.2]; exact hown2)
      clear hown2 hgrow2
      go_wp2_with fail
      go_ret
      exact ⟨_, rfl, HO6.out, hb6⟩

end Go.Proofs.Ytomijmikkbhgmab

namespace Go.Proofs.Ytomijmikkbhgmab
open Go.RowKit

def earB (p S : List Int) (a k : Nat) : Bool := (List.range k).any fun i => p.getD i 0 == 0 && S.getD (a + i) 0 == 0
def latB (p S : List Int) (a k : Nat) : Bool := (List.range k).any fun i => p.getD i 0 == 1 && S.getD (a + i) 0 == 1
def allB (S : List Int) (a : Nat) (v : Int) (k : Nat) : Bool := (List.range k).all fun i => S.getD (a + i) 0 == v
theorem earB_step (p S : List Int) (a k : Nat) : earB p S a (k + 1) = (earB p S a k || (p.getD k 0 == 0 && S.getD (a + k) 0 == 0)) := by unfold earB; rw [List.range_succ, List.any_append]; simp
theorem latB_step (p S : List Int) (a k : Nat) : latB p S a (k + 1) = (latB p S a k || (p.getD k 0 == 1 && S.getD (a + k) 0 == 1)) := by unfold latB; rw [List.range_succ, List.any_append]; simp
theorem allB_step (S : List Int) (a : Nat) (v : Int) (k : Nat) : allB S a v (k + 1) = (allB S a v k && S.getD (a + k) 0 == v) := by unfold allB; rw [List.range_succ, List.all_append]; simp

set_option maxRecDepth 20000 in
set_option maxHeartbeats 2000000 in
theorem split_any (L S : List Int) (hL : L.length ≤ 4000000000000000000) (hI : I64 L) (hS : S.length = 12) (a : Nat) (ha9 : a ≤ 9) (v u : Value) (w : World) (h : IntAt w v L) (hu : IntAt w u S) :
    Calls Try.prog 20 #[v, u, .int .i64 a] w fun e w' => e = .returned (.bool (earB (patL L) S a (patL L).length && latB (patL L) S a (patL L).length)) ∧ Below w.heap.size w w' := by
  obtain ⟨ao, b, off, cap, hv, ha, _, hc⟩ := h
  obtain ⟨ao2, b2, off2, cap2, hv2, ha2, _, hc2⟩ := hu
  subst hv hv2
  obtain rfl := ha2 (by intro e; rw [e] at hS; simp at hS)
  have HC : Hid ((∀ k x, L[k]? = some x → IntC w b (off + k * 1) x) ∧ I64 L ∧ (∀ k x, S[k]? = some x → IntC w b2 (off2 + k * 1) x) ∧ S.length = 12) := ⟨hc, hI, hc2, hS⟩
  have HPL : Hid ((patL L).length = min 3 L.length) := patL_len L
  rw [hS]
  clear hc hI hc2 hS ha2
  go_enter Try.func20, Try.ntmps20
  go_wp2_with fail
  go_loopw [7, 8, 9] (fun e l i wr => ∃ (k : Nat) (B1 B2 : Bool), k ≤ 3 ∧ k ≤ L.length ∧ i = .int .i64 k ∧ e = .bool B1 ∧ l = .bool B2 ∧ Hid (earB (patL L) S a k = B1 ∧ latB (patL L) S a k = B2) ∧ Below w.heap.size w wr) (fun _ _ i _ => 3 - (intOf i).toNat)
  case atStart => exact ⟨0, false, false, Nat.zero_le _, Nat.zero_le _, rfl, rfl, rfl, ⟨rfl, rfl⟩, Below.refl _ _⟩
  case round =>
    obtain ⟨k, B1, B2, hk3, hkL, rfl, rfl, rfl, HB, hb⟩ := hrel
    by_cases hlt : k < L.length
    · have hkI : (k : Int) < (L.length : Int) := by omega
      by_cases h3 : k < 3
      · have hkI3 : (k : Int) < 3 := by omega
        obtain ⟨x, hx⟩ := get_of_lt hlt
        obtain rfl := ha (ne_nil hlt)
        have c0 : wr.cell? ⟨b, off + k, none⟩ = some (.int .i64 x) := by
          have := keep_cell hb (HC.out.1 k x hx)
          rw [Nat.mul_one] at this
          exact this
        have HPK : Hid (Calls Try.prog 12 #[.int .i64 x, .int .i64 2] wr fun e w'' => e = .returned (.int .i64 (pick2 x)) ∧ Below wr.heap.size wr w'') := pick2_any x (HC.out.2.1 x (List.mem_of_getElem? hx)) wr
        obtain ⟨y, hy⟩ := get_of_lt (l := S) (k := a + k) (by rw [HC.out.2.2.2]; omega)
        have d0 : wr.cell? ⟨b2, off2 + (a + k), none⟩ = some (.int .i64 y) := by
          have := keep_cell hb (HC.out.2.2.1 (a + k) y hy)
          rw [Nat.mul_one] at this
          exact this
        have hakI : ((a : Nat) : Int) + (k : Int) = ((a + k : Nat) : Int) := by omega
        have HE : Hid (earB (patL L) S a (k + 1) = (B1 || (pick2 x == 0 && y == 0)) ∧ latB (patL L) S a (k + 1) = (B2 || (pick2 x == 1 && y == 1))) := by
          have e1 : (patL L).getD k 0 = pick2 x := by rw [List.getD_eq_getElem?_getD, patL_get hx h3]; rfl
          have e2 : S.getD (a + k) 0 = y := by rw [List.getD_eq_getElem?_getD, hy]; rfl
          exact ⟨by rw [earB_step, HB.out.1, e1, e2], by rw [latB_step, HB.out.2, e1, e2]⟩
        have hor := pick2_or x
        generalize pick2 x = px at *
        clear hx hy HB
        generalize hak : a + k = ak at *
        have hak2 : ak < 12 := by omega
        clear hak
        go_wp2_with fail
        refine HPK.out.mono ?_
        rintro e w5 ⟨rfl, hb5⟩
        replace d0 := keep_cell hb5 d0
        have hb15 : Below w.heap.size w w5 := below_more hb hb5
        clear hb5 c0 HPK hb
        rcases hor with rfl | rfl
        · cases hy0 : y == 0
          · rw [hy0] at HE
            go_wp2_with fail
            go_roundw
            case measure => simp [intOf]; omega
            case rel => exact ⟨k + 1, B1, B2, by omega, by omega, by go_num, rfl, rfl, ⟨by rw [HE.out.1]; simp, by rw [HE.out.2]; simp⟩, hb15⟩
          · rw [hy0] at HE
            go_wp2_with fail
            go_roundw
            case measure => simp [intOf]; omega
            case rel => exact ⟨k + 1, true, B2, by omega, by omega, by go_num, rfl, rfl, ⟨by rw [HE.out.1]; simp, by rw [HE.out.2]; simp⟩, hb15⟩
        · cases hy0 : y == 1
          · rw [hy0] at HE
            go_wp2_with fail
            go_roundw
            case measure => simp [intOf]; omega
            case rel => exact ⟨k + 1, B1, B2, by omega, by omega, by go_num, rfl, rfl, ⟨by rw [HE.out.1]; simp, by rw [HE.out.2]; simp⟩, hb15⟩
          · rw [hy0] at HE
            go_wp2_with fail
            go_roundw
            case measure => simp [intOf]; omega
            case rel => exact ⟨k + 1, B1, true, by omega, by omega, by go_num, rfl, rfl, ⟨by rw [HE.out.1]; simp, by rw [HE.out.2]; simp⟩, hb15⟩
      · have hkI3 : ¬ (k : Int) < 3 := by omega
        have HK : Hid (k = (patL L).length) := by unfold Hid; rw [HPL.out]; omega
        have HR : Hid ((earB (patL L) S a (patL L).length && latB (patL L) S a (patL L).length) = (B1 && B2)) := by unfold Hid; rw [← HK.out, HB.out.1, HB.out.2]
        clear HB HK
        cases B1
        · go_wp2_with fail
          go_ret
          exact ⟨by rw [HR.out]; rfl, hb⟩
        · go_wp2_with fail
          go_ret
          exact ⟨by rw [HR.out]; rfl, hb⟩
    · have hkI : ¬ (k : Int) < (L.length : Int) := by omega
      have HK : Hid (k = (patL L).length) := by unfold Hid; rw [HPL.out]; omega
      have HR : Hid ((earB (patL L) S a (patL L).length && latB (patL L) S a (patL L).length) = (B1 && B2)) := by unfold Hid; rw [← HK.out, HB.out.1, HB.out.2]
      clear HB HK
      cases B1
      · go_wp2_with fail
        go_ret
        exact ⟨by rw [HR.out]; rfl, hb⟩
      · go_wp2_with fail
        go_ret
        exact ⟨by rw [HR.out]; rfl, hb⟩

theorem allB_no {S : List Int} {a : Nat} {v : Int} {k n : Nat} (hk : k < n) (h : (S.getD (a + k) 0 == v) = false) : allB S a v n = false := by
  unfold allB
  rw [List.all_eq_false]
  exact ⟨k, List.mem_range.2 hk, by rw [h]; simp⟩

set_option maxRecDepth 20000 in
set_option maxHeartbeats 2000000 in
theorem allS_any (L S : List Int) (hL : L.length ≤ 4000000000000000000) (hS : S.length = 12) (a : Nat) (ha9 : a ≤ 9) (v0 : Int) (v u : Value) (w : World) (h : IntAt w v L) (hu : IntAt w u S) :
    Calls Try.prog 21 #[v, u, .int .i64 a, .int .i64 v0] w fun e w' => e = .returned (.bool (allB S a v0 (patL L).length)) ∧ Below w.heap.size w w' := by
  obtain ⟨ao, b, off, cap, hv, ha, _, hc⟩ := h
  obtain ⟨ao2, b2, off2, cap2, hv2, ha2, _, hc2⟩ := hu
  subst hv hv2
  obtain rfl := ha2 (by intro e; rw [e] at hS; simp at hS)
  have HC : Hid ((∀ k x, S[k]? = some x → IntC w b2 (off2 + k * 1) x) ∧ S.length = 12) := ⟨hc2, hS⟩
  have HPL : Hid ((patL L).length = min 3 L.length) := patL_len L
  rw [hS]
  clear hc hc2 hS ha2 ha
  go_enter Try.func21, Try.ntmps21
  go_wp2_with fail
  go_loopw [9] (fun i wr => ∃ (k : Nat), k ≤ 3 ∧ k ≤ L.length ∧ i = .int .i64 k ∧ Hid (allB S a v0 k = true) ∧ Below w.heap.size w wr) (fun i _ => 3 - (intOf i).toNat)
  case atStart => exact ⟨0, Nat.zero_le _, Nat.zero_le _, rfl, rfl, Below.refl _ _⟩
  case round =>
    obtain ⟨k, hk3, hkL, rfl, HB, hb⟩ := hrel
    by_cases hlt : k < L.length
    · have hkI : (k : Int) < (L.length : Int) := by omega
      by_cases h3 : k < 3
      · have hkI3 : (k : Int) < 3 := by omega
        obtain ⟨y, hy⟩ := get_of_lt (l := S) (k := a + k) (by rw [HC.out.2]; omega)
        have d0 : wr.cell? ⟨b2, off2 + (a + k), none⟩ = some (.int .i64 y) := by
          have := keep_cell hb (HC.out.1 (a + k) y hy)
          rw [Nat.mul_one] at this
          exact this
        have hakI : ((a : Nat) : Int) + (k : Int) = ((a + k : Nat) : Int) := by omega
        have e2 : S.getD (a + k) 0 = y := by rw [List.getD_eq_getElem?_getD, hy]; rfl
        have HE : Hid (allB S a v0 (k + 1) = (y == v0)) := by unfold Hid; rw [allB_step, HB.out, e2]; rfl
        have HN : Hid ((y == v0) = false → allB S a v0 (patL L).length = false) := fun h => allB_no (k := k) (by rw [HPL.out]; omega) (by rw [e2]; exact h)
        clear hy HB e2
        generalize hak : a + k = ak at *
        have hak2 : ak < 12 := by omega
        clear hak
        cases hy0 : y == v0
        · have hy1 : (y != v0) = true := by simp [bne, hy0]
          have HRR : Hid (allB S a v0 (patL L).length = false) := HN.out hy0
          go_wp2_with fail
          go_ret
          exact ⟨by rw [HRR.out]; rfl, hb⟩
        · have hy1 : (y != v0) = false := by simp [bne, hy0]
          rw [hy0] at HE
          go_wp2_with fail
          go_roundw
          case measure => simp [intOf]; omega
          case rel => exact ⟨k + 1, by omega, by omega, by go_num, HE.out, hb⟩
      · have hkI3 : ¬ (k : Int) < 3 := by omega
        have HR : Hid (allB S a v0 (patL L).length = true) := by
          have e : (patL L).length = k := by rw [HPL.out]; omega
          unfold Hid
          rw [e]
          exact HB.out
        clear HB
        go_wp2_with fail
        go_ret
        exact ⟨by rw [HR.out]; rfl, hb⟩
    · have hkI : ¬ (k : Int) < (L.length : Int) := by omega
      have HR : Hid (allB S a v0 (patL L).length = true) := by
        have e : (patL L).length = k := by rw [HPL.out]; omega
        unfold Hid
        rw [e]
        exact HB.out
      clear HB
      go_wp2_with fail
      go_ret
      exact ⟨by rw [HR.out]; rfl, hb⟩

end Go.Proofs.Ytomijmikkbhgmab

namespace Go.Proofs.Ytomijmikkbhgmab
open Go.RowKit

theorem pats_two {p q : List Int} (hp : p ∈ pats) (hq : q ∈ pats) : secB p q = true ∧ secN p q = true ∧ secA p q = true :=
  ⟨List.all_eq_true.1 (List.all_eq_true.1 secB_all p hp) q hq, List.all_eq_true.1 (List.all_eq_true.1 secN_all p hp) q hq, List.all_eq_true.1 (List.all_eq_true.1 secA_all p hp) q hq⟩

/-- A state of such a test, number by number. -/
theorem sec_state (p q : List Int) (E : List Evt) (x : Exe) (i : Nat) (hi : i < 3) : (stX (secT p q) E x).getD (3 + i) 0 = regV E (frS E x) 1 i ∧ (stX (secT p q) E x).getD (6 + i) 0 = regV E (frS E x) 2 i := by
  match i, hi with
  | 0, _ => exact ⟨rfl, rfl⟩
  | 1, _ => exact ⟨rfl, rfl⟩
  | 2, _ => exact ⟨rfl, rfl⟩

theorem any_range {n : Nat} {f : Nat → Bool} (h : (List.range n).any f = true) : ∃ i, i < n ∧ f i = true := by
  obtain ⟨i, h1, h2⟩ := List.any_eq_true.1 h
  exact ⟨i, List.mem_range.1 h1, h2⟩

structure SecOk (p q : List Int) (K : List (List Int × Nat)) : Prop where
  fit : KFit 12 K
  one : ∀ r ∈ K, (earB p r.1 3 p.length && latB p r.1 3 p.length) = false
  two : ∀ r ∈ K, (earB q r.1 6 q.length && latB q r.1 6 q.length) = false
  no : ∃ r ∈ K, (allB r.1 3 0 p.length && allB r.1 6 0 q.length) = true
  yes : ∃ r ∈ K, (allB r.1 3 1 p.length && allB r.1 6 1 q.length) = true

theorem getD_of {p : List Int} {i : Nat} {v : Int} (hi : i < p.length) (h : (p.getD i 0 == v) = true) : p[i]? = some v := by
  obtain ⟨x, hx⟩ := get_of_lt hi
  rw [List.getD_eq_getElem?_getD, hx] at h
  have : x = v := by simpa using h
  rw [hx, this]

theorem pats_len {p : List Int} (hp : p ∈ pats) : p.length ≤ 3 := by
  have : (pats.all fun p => decide (p.length ≤ 3)) = true := by decide
  simpa using List.all_eq_true.1 this p hp

theorem oneL_get (p : List Int) (i : Nat) (hi : i < p.length) (h3 : p.length ≤ 3) : (oneL p).getD i 0 = 1 := by
  unfold oneL
  rw [List.getD_eq_getElem?_getD, List.getElem?_map, List.getElem?_range (by omega)]
  simp [hi]

theorem sec_ok {p q : List Int} (hp : p ∈ pats) (hq : q ∈ pats) (al : Nat → Bool) (hal : Als (secT p q) (evsT (secT p q) 0) al) : ((chk (secT p q) []).1 == 0) = true ∧ SecOk p q (outT al (secT p q)) := by
  obtain ⟨hB, hN, hA⟩ := pats_two hp hq
  have hp3 := pats_len hp
  have hq3 := pats_len hq
  unfold secB at hB
  simp only [Bool.and_eq_true] at hB
  obtain ⟨⟨⟨⟨⟨hz, h01, h23⟩, i0, i3⟩, w0, w1⟩, hR1, hR2⟩, hM⟩ := hB
  have h0 : (chk (secT p q) []).1 = 0 := by simpa using hz
  have hF := fits_of hz
  have w0' : wrs (evsT (secT p q) 0) 0 0 = [0] := by simpa using w0
  have w1' : wrs (evsT (secT p q) 0) 0 1 = [3] := by simpa using w1
  have hm : ∃ m m', mtL (thoL 2 (evsT (secT p q) 0) 0) (thoL 3 (evsT (secT p q) 0) 0) (thoL 4 (evsT (secT p q) 0) 0) = [m, m'] ∧ mtB m 4 ((5 + p.length : Nat) : Int) 1 2 = true ∧ mtB m' ((6 + p.length : Nat) : Int) ((7 + p.length + q.length : Nat) : Int) 1 2 = true := by
    unfold mtsB at hM
    split at hM
    · rename_i m m' heq
      rw [Bool.and_eq_true] at hM
      exact ⟨m, m', heq, hM.1, hM.2⟩
    · cases hM
  obtain ⟨m1, m2, hms, hm1, hm2⟩ := hm
  have hall : ∀ r ∈ outT al (secT p q), ∃ n, Alw (secT p q) (evsT (secT p q) 0) (exN (evsT (secT p q) 0) n) ∧ stX (secT p q) (evsT (secT p q) 0) (exN (evsT (secT p q) 0) n) = r.1 := fun r hr => by
    obtain ⟨n, h1, h2, h3⟩ := (outT_mem al r.1).1 ⟨r, hr, rfl⟩
    exact ⟨n, (hal n h1).1 h2, h3⟩
  have hsz : 1 ≤ sizeN (evsT (secT p q) 0) := by
    obtain ⟨n, hn, _⟩ := some_allowed hz
    omega
  refine ⟨hz, ⟨?_, fun r hr => ?_, fun r hr => ?_, ?_, ?_⟩⟩
  · exact outT_fit hal h0
  · obtain ⟨n, ha, he⟩ := hall r hr
    cases hb : (earB p r.1 3 p.length && latB p r.1 3 p.length)
    · rfl
    · exfalso
      rw [Bool.and_eq_true] at hb
      obtain ⟨i, hi, h1⟩ := any_range hb.1
      obtain ⟨j, hj, h2⟩ := any_range hb.2
      rw [Bool.and_eq_true] at h1 h2
      rw [← he] at h1 h2
      rw [(sec_state p q _ _ i (by omega)).1] at h1
      rw [(sec_state p q _ _ j (by omega)).1] at h2
      exact split_no hF.el hF.locs (exN_isEx _ n) ha h01 h23 i0 i3 w0' w1' 4 (Nat.le_refl _) p 1 hR1 m1 (by rw [hms]; simp) (by rw [show 4 + 1 + p.length = 5 + p.length by omega]; exact hm1) i j (getD_of hi h1.1) (getD_of hj h2.1) (by simpa using h1.2) (by simpa using h2.2)
  · obtain ⟨n, ha, he⟩ := hall r hr
    cases hb : (earB q r.1 6 q.length && latB q r.1 6 q.length)
    · rfl
    · exfalso
      rw [Bool.and_eq_true] at hb
      obtain ⟨i, hi, h1⟩ := any_range hb.1
      obtain ⟨j, hj, h2⟩ := any_range hb.2
      rw [Bool.and_eq_true] at h1 h2
      rw [← he] at h1 h2
      rw [(sec_state p q _ _ i (by omega)).2] at h1
      rw [(sec_state p q _ _ j (by omega)).2] at h2
      exact split_no hF.el hF.locs (exN_isEx _ n) ha h01 h23 i0 i3 w0' w1' (6 + p.length) (by omega) q 2 hR2 m2 (by rw [hms]; simp) (by rw [show 6 + p.length + 1 + q.length = 7 + p.length + q.length by omega]; exact hm2) i j (getD_of hi h1.1) (getD_of hj h2.1) (by simpa using h1.2) (by simpa using h2.2)
  · unfold secN at hN
    rw [Bool.and_eq_true] at hN
    have hs : stX (secT p q) (evsT (secT p q) 0) (exN (evsT (secT p q) 0) 0) = [0, 0, 0, 0, 0, 0, 0, 0, 0, 1, 1, 0] := by simpa using hN.2
    obtain ⟨r, hr, he⟩ := (outT_mem al [0, 0, 0, 0, 0, 0, 0, 0, 0, 1, 1, 0]).2 ⟨0, by omega, (hal 0 (by omega)).2 (alU_alw hN.1), hs⟩
    refine ⟨r, hr, ?_⟩
    rw [he]
    have hl := hp3
    have hl2 := hq3
    generalize p.length = a at hl
    generalize q.length = b at hl2
    match a, hl, b, hl2 with
    | 0, _, 0, _ => rfl
    | 0, _, 1, _ => rfl
    | 0, _, 2, _ => rfl
    | 0, _, 3, _ => rfl
    | 1, _, 0, _ => rfl
    | 1, _, 1, _ => rfl
    | 1, _, 2, _ => rfl
    | 1, _, 3, _ => rfl
    | 2, _, 0, _ => rfl
    | 2, _, 1, _ => rfl
    | 2, _, 2, _ => rfl
    | 2, _, 3, _ => rfl
    | 3, _, 0, _ => rfl
    | 3, _, 1, _ => rfl
    | 3, _, 2, _ => rfl
    | 3, _, 3, _ => rfl
  · unfold secA at hA
    rw [Bool.and_eq_true] at hA
    have hs : stX (secT p q) (evsT (secT p q) 0) (exN (evsT (secT p q) 0) (sizeN (evsT (secT p q) 0) - 1)) = [0, 0, 0] ++ oneL p ++ oneL q ++ [1, 1, 0] := by simpa using hA.2
    obtain ⟨r, hr, he⟩ := (outT_mem al ([0, 0, 0] ++ oneL p ++ oneL q ++ [1, 1, 0])).2 ⟨sizeN (evsT (secT p q) 0) - 1, by omega, (hal _ (by omega)).2 (alU_alw hA.1), hs⟩
    refine ⟨r, hr, ?_⟩
    rw [he]
    unfold allB oneL
    have hl := hp3
    have hl2 := hq3
    generalize p.length = a at hl
    generalize q.length = b at hl2
    match a, hl, b, hl2 with
    | 0, _, 0, _ => rfl
    | 0, _, 1, _ => rfl
    | 0, _, 2, _ => rfl
    | 0, _, 3, _ => rfl
    | 1, _, 0, _ => rfl
    | 1, _, 1, _ => rfl
    | 1, _, 2, _ => rfl
    | 1, _, 3, _ => rfl
    | 2, _, 0, _ => rfl
    | 2, _, 1, _ => rfl
    | 2, _, 2, _ => rfl
    | 2, _, 3, _ => rfl
    | 3, _, 0, _ => rfl
    | 3, _, 1, _ => rfl
    | 3, _, 2, _ => rfl
    | 3, _, 3, _ => rfl

end Go.Proofs.Ytomijmikkbhgmab
